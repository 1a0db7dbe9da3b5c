/- Texts of the proof, one behind the other. -/
import Derived.Test.YtpnkplidhbbliaaDoorOwn3
import Derived.Test.YtpnkplidhbbliaaDoorOwn2
import Derived.Shelf.Abstract
/- What the document's Term and Check answer. -/
namespace Go.Proofs.YtpnkplidhbbliaaDoor
open Go.RowKit Go.Maps Go.BigFrame

set_option maxRecDepth 100000 in
set_option maxHeartbeats 1600000 in
theorem refTerm_any (sv v : Value) (sig : List Sy) (t : List Int) (w : World) (hs : Sg w sv sig) (h : Is w v t) (ha : ArOk sig) (hb : t.length * 8 ≤ 140737488351232) :
    Calls Tryd.prog 33 #[sv, v] w fun e w' => e = .returned (.int .i64 (rowE sig t)) ∧ w' = w := by
  obtain ⟨so, sc, rfl, hso, hsc, _⟩ := Row.flat hs
  obtain ⟨ao, cap, rfl, hao, hca, q0⟩ := Row.flat h
  unfold maxLen at hca hsc
  have HS := hid hs
  have HT := hid h
  have HA := hid ha
  clear hs h q0 ha
  go_enter Tryd.func33, Tryd.ntmps33
  go_wp2
  go_loopw [5, 6] (fun x i wr => ∃ (k : Nat) (m : Int), k ≤ t.length ∧ x = .int .i64 m ∧ i = .int .i64 k ∧ ((0 < m ∧ firstT sig 1 0 t = firstT sig m k (t.drop k)) ∨ (m = 0 ∧ rowE sig t = 0)) ∧ m ≤ 1 + 1000 * (k : Int) ∧ wr = w) (fun _ i _ => t.length + 1 - (intOf i).toNat)
  case atStart => exact ⟨0, 1, Nat.zero_le _, rfl, rfl, .inl ⟨by omega, rfl⟩, by omega, rfl⟩
  case round =>
    obtain ⟨k, m, hk, rfl, rfl, hft, hm2, hw⟩ := hrel
    have hw8 := hw.symm
    subst hw8
    clear hw
    rcases hft with ⟨hm0, hft⟩ | ⟨rfl, hft⟩
    · have HF := hid hft
      clear hft
      by_cases hlt : k < t.length
      · have hne : ((k : Int) == (t.length : Int)) = false := by rw [beq_eq_false_iff_ne]; omega
        obtain ⟨g, off, c, rfl, hx1, hx2, hx3, hx4⟩ := HT.out.at hlt
        have HD : Hid (t.drop k = c :: t.drop (k + 1)) := drop_get hx1
        clear hx1
        by_cases hbad : (sig.length : Int) ≤ c ∨ c < -1048576
        · have HR : Hid (rowE sig t = 30) := by show _ = _; unfold rowE; rw [HF.out, HD.out, firstT, codeD_none hbad]; rfl
          rcases hbad with hbad | hbad
          · go_wp2
            go_ret
            exact ⟨ret1i HR.out.symm, rfl⟩
          · by_cases hbad2 : (sig.length : Int) ≤ c
            · omega
            · go_wp2
              go_ret
              exact ⟨ret1i HR.out.symm, rfl⟩
        · have hb1 : ¬ (sig.length : Int) ≤ c := fun h => hbad (.inl h)
          have hb2 : ¬ c < -1048576 := fun h => hbad (.inr h)
          clear hbad
          by_cases hc0 : c < 0
          · have hcd : codeD sig c = some (-1) := codeD_var (by omega) hc0
            have hcn : ¬ 0 ≤ c := by omega
            have hwm : IntKind.i64.wrap (m - 1) = m - 1 := IntWalk.i64_in _ ⟨by omega, by omega⟩
            by_cases hz : m - 1 = 0
            · have hzb : (m - 1 == 0) = true := by rw [beq_iff_eq]; exact hz
              have HR : Hid (rowE sig t = if (k : Int) + 1 < (t.length : Int) then 32 else 0) := by
                have h9 : firstT sig 1 0 t = ((k : Int) + 1, 0) := by
                  rw [HF.out, HD.out, firstT, hcd]
                  simp only
                  rw [if_pos (by omega)]
                show _ = _
                unfold rowE
                rw [h9]
                simp
              clear hcd
              by_cases hmore : k + 1 < t.length
              · have HR2 : Hid (rowE sig t = 32) := by show _ = _; rw [HR.out, if_pos (by omega)]
                go_wp2
                go_ret
                exact ⟨ret1i HR2.out.symm, rfl⟩
              · have HR2 : Hid (rowE sig t = 0) := by show _ = _; rw [HR.out, if_neg (by omega)]
                go_wp2
                go_roundw
                case rel => exact ⟨k + 1, 0, by omega, rfl, by go_num, .inr ⟨rfl, HR2.out⟩, by omega, trivial⟩
                case measure => simp [intOf]; omega
            · have hzb : (m - 1 == 0) = false := by rw [beq_eq_false_iff_ne]; exact hz
              have HN : Hid (firstT sig 1 0 t = firstT sig (m - 1) (k + 1) (t.drop (k + 1))) := by show _ = _; rw [HF.out, HD.out, firstT, hcd]; simp only; rw [if_neg (by omega)]; rfl
              clear hcd
              go_wp2
              go_roundw
              case rel => exact ⟨k + 1, m - 1, by omega, rfl, by go_num, .inl ⟨by omega, HN.out⟩, by omega, trivial⟩
              case measure => simp [intOf]; omega
          · obtain ⟨cn, rfl⟩ : ∃ cn : Nat, c = cn := ⟨c.toNat, by omega⟩
            have hcn : (0 : Int) ≤ (cn : Int) := by omega
            obtain ⟨g2, off2, nm, ar, rfl, hs1, hs2, hs3, hs4, hs5, hs6⟩ := HS.out.at (k := cn) (by omega)
            have har := HA.out _ (List.mem_of_getElem? hs1)
            simp only at har
            have hcd : codeD sig (cn : Int) = some (ar - 1) := codeD_sym hs1
            have hwm1 : IntKind.i64.wrap (m - 1) = m - 1 := IntWalk.i64_in _ ⟨by omega, by omega⟩
            have hwm : IntKind.i64.wrap (m - 1 + ar) = m - 1 + ar := IntWalk.i64_in _ ⟨by omega, by omega⟩
            have hcl : cn < sig.length := by omega
            clear hs1
            by_cases hz : m - 1 + ar = 0
            · have hzb : (m - 1 + ar == 0) = true := by rw [beq_iff_eq]; exact hz
              have HR : Hid (rowE sig t = if (k : Int) + 1 < (t.length : Int) then 32 else 0) := by
                have h9 : firstT sig 1 0 t = ((k : Int) + 1, 0) := by
                  rw [HF.out, HD.out, firstT, hcd]
                  simp only
                  rw [if_pos (by omega)]
                show _ = _
                unfold rowE
                rw [h9]
                simp
              clear hcd
              by_cases hmore : k + 1 < t.length
              · have HR2 : Hid (rowE sig t = 32) := by show _ = _; rw [HR.out, if_pos (by omega)]
                go_wp2
                go_ret
                exact ⟨ret1i HR2.out.symm, rfl⟩
              · have HR2 : Hid (rowE sig t = 0) := by show _ = _; rw [HR.out, if_neg (by omega)]
                go_wp2
                go_roundw
                case rel => exact ⟨k + 1, 0, by omega, rfl, by go_num, .inr ⟨rfl, HR2.out⟩, by omega, trivial⟩
                case measure => simp [intOf]; omega
            · have hzb : (m - 1 + ar == 0) = false := by rw [beq_eq_false_iff_ne]; exact hz
              have HN : Hid (firstT sig 1 0 t = firstT sig (m - 1 + ar) (k + 1) (t.drop (k + 1))) := by
                show _ = _
                rw [HF.out, HD.out, firstT, hcd]
                simp only
                rw [if_neg (by omega), show m + (ar - 1) = m - 1 + ar by omega]
              clear hcd
              go_wp2
              go_roundw
              case rel => exact ⟨k + 1, m - 1 + ar, by omega, rfl, by go_num, .inl ⟨by omega, HN.out⟩, by omega, trivial⟩
              case measure => simp [intOf]; omega
      · have heq : ((k : Int) == (t.length : Int)) = true := by rw [beq_iff_eq]; omega
        have HR : Hid (rowE sig t = 31) := by show _ = _; unfold rowE; rw [HF.out, List.drop_of_length_le (by omega)]; rfl
        go_wp2
        go_ret
        exact ⟨ret1i HR.out.symm, rfl⟩
    · have HR := hid hft
      clear hft
      go_wp2
      go_ret
      exact ⟨ret1i HR.out.symm, rfl⟩

set_option maxRecDepth 100000 in
set_option maxHeartbeats 800000 in
theorem refCheck_any (sv v : Value) (sig : List Sy) (t : List Int) (w : World) (hs : Sg w sv sig) (h : Is w v t) (hb : t.length * 8 ≤ 140737488351232) :
    Calls Tryd.prog 18 #[sv, v] w fun e w' => e = .returned (.int .i64 (termE sig t)) ∧ Below w.heap.size w w' := by
  have HS := hid hs
  have HI := hid h
  clear hs h
  go_enter Tryd.func18, Tryd.ntmps18
  go_wp2_with fail
  refine (refCheckSig_any sv sig w HS.out).mono ?_
  rintro e w1 ⟨rfl, hb1⟩
  have HB := hid hb1
  have HS1 := hid (HS.out.kp (Kp.of_below hb1))
  have HI1 := hid (HI.out.kp (Kp.of_below hb1))
  clear hb1
  by_cases he : sigE sig = 0
  · have HA := hid (sigE_ok he)
    have HF : Hid (termE sig t = rowE sig t) := by show _ = _; unfold termE; rw [if_pos he]
    rw [he]
    clear he
    go_wp2_with fail
    refine (refTerm_any sv v sig t w1 HS1.out HI1.out HA.out hb).mono ?_
    rintro e w9 ⟨rfl, hw9⟩
    have hw8 := hw9.symm
    subst hw8
    clear hw9
    go_wp2
    go_ret
    exact ⟨ret1i HF.out.symm, HB.out⟩
  · have HF : Hid (termE sig t = sigE sig) := by show _ = _; unfold termE; rw [if_neg he]
    generalize sigE sig = E at he HF ⊢
    have heb : (E != 0) = true := by simpa using he
    go_wp2
    go_ret
    exact ⟨ret1i HF.out.symm, HB.out⟩

end Go.Proofs.YtpnkplidhbbliaaDoor

/- What Shift, and the document's Shift, answer. -/
namespace Go.Proofs.YtpnkplidhbbliaaDoor
open Go.RowKit Go.Maps

def okShift (d : Int) (t : List Int) : Bool := t.all fun c => !decide (c < 0) || isVarB (-1 - c + d)
def shiftE (d : Int) (t : List Int) : Int := if okShift d t = true then 0 else 40
def shiftL (d : Int) (t : List Int) : List Int := if okShift d t = true then t.map (fun c => if c < 0 then c - d else c) else []

theorem mem_metA : ∀ {t m : List Int} {c : Int}, c ∈ metA m t ↔ c ∈ m ∨ (c ∈ t ∧ c < 0)
  | [], m, c => by simp [metA]
  | a :: t, m, c => by
    unfold metA
    split
    · rename_i h
      rw [mem_metA]
      constructor
      · rintro (h1 | ⟨h1, h2⟩)
        · exact .inl h1
        · exact .inr ⟨List.mem_cons_of_mem _ h1, h2⟩
      · rintro (h1 | ⟨h1, h2⟩)
        · exact .inl h1
        · rcases List.mem_cons.1 h1 with rfl | h1
          · rcases h with h | h
            · omega
            · exact .inl h
          · exact .inr ⟨h1, h2⟩
    · rename_i h
      rw [mem_metA]
      constructor
      · rintro (h1 | ⟨h1, h2⟩)
        · rcases List.mem_append.1 h1 with h1 | h1
          · exact .inl h1
          · simp at h1
            subst h1
            exact .inr ⟨by simp, by have := fun hh => h (.inl hh); omega⟩
        · exact .inr ⟨List.mem_cons_of_mem _ h1, h2⟩
      · rintro (h1 | ⟨h1, h2⟩)
        · exact .inl (List.mem_append.2 (.inl h1))
        · rcases List.mem_cons.1 h1 with rfl | h1
          · exact .inl (by simp)
          · exact .inr ⟨h1, h2⟩

theorem mem_varsL {t : List Int} {x : Int} : x ∈ varsL t ↔ ∃ c ∈ t, c < 0 ∧ x = -1 - c := by
  unfold varsL
  rw [List.mem_map]
  constructor
  · rintro ⟨c, hc, rfl⟩
    rcases mem_metA.1 hc with h | ⟨h, h2⟩
    · cases h
    · exact ⟨c, h, h2, rfl⟩
  · rintro ⟨c, hc, h2, rfl⟩
    exact ⟨c, mem_metA.2 (.inr ⟨hc, h2⟩), rfl⟩

theorem okShift_vars {d : Int} {t : List Int} : okShift d t = true ↔ ∀ x ∈ varsL t, isVarB (x + d) = true := by
  unfold okShift
  rw [List.all_eq_true]
  constructor
  · intro h x hx
    obtain ⟨c, hc, h2, rfl⟩ := mem_varsL.1 hx
    have := h c hc
    rw [decide_eq_true h2] at this
    simpa using this
  · intro h c hc
    by_cases h2 : c < 0
    · rw [decide_eq_true h2, h _ (mem_varsL.2 ⟨c, hc, h2, rfl⟩)]
      rfl
    · rw [decide_eq_false h2]
      rfl

theorem isVarB_iff {n : Int} : isVarB n = true ↔ 0 ≤ n ∧ n < 1048576 := by
  unfold isVarB
  rw [Bool.and_eq_true, decide_eq_true_eq, decide_eq_true_eq]

theorem isVar_wrap {x d : Int} (h1 : 0 ≤ x) (h2 : x ≤ 9223372036854775807) (h3 : -9223372036854775808 ≤ d) (h4 : d ≤ 9223372036854775807) : isVarB (wrap64 (x + d)) = isVarB (x + d) := by
  by_cases h : x + d ≤ 9223372036854775807
  · rw [IntWalk.wrap64_in _ ⟨by omega, h⟩]
  · have e : wrap64 (x + d) = x + d - 18446744073709551616 := by unfold wrap64; omega
    rw [e]
    have a : isVarB (x + d - 18446744073709551616) = false := by rw [Bool.eq_false_iff]; intro hh; have := isVarB_iff.1 hh; omega
    have b : isVarB (x + d) = false := by rw [Bool.eq_false_iff]; intro hh; have := isVarB_iff.1 hh; omega
    rw [a, b]

theorem renG_shift (d : Int) : ∀ t : List Int, (renG (fun (_ : Unit) n => (n + d, ())) () t).1 = t.map fun c => if c < 0 then c - d else c
  | [] => rfl
  | c :: t => by
    unfold renG
    by_cases h : c < 0
    · rw [if_pos h, List.map_cons, if_pos h, renG_shift d t]
      show (-1 - (-1 - c + d)) :: _ = _
      rw [show -1 - (-1 - c + d) = c - d by omega]
    · rw [if_neg h, List.map_cons, if_neg h, renG_shift d t]

theorem shiftFn_any (n d : Int) (g : Nat) (w : World) (h : w.cell? ⟨g, 0, none⟩ = some (.int .i64 d)) (hn : -9223372036854775808 ≤ n + d ∧ n + d ≤ 9223372036854775807) :
    Calls Tryd.prog 36 #[.int .i64 n, .pointer (some ⟨g, 0, none⟩)] w fun e w' => e = .returned (.int .i64 (n + d)) ∧ w' = w := by
  have hw : IntKind.i64.wrap (n + d) = n + d := IntWalk.i64_in _ hn
  go_enter Tryd.func36, Tryd.ntmps36
  go_wp2
  go_ret
  exact ⟨rfl, rfl⟩

theorem enterShift : ∀ args w, (callFunc 36 args).run Tryd.prog w = .ok (.enter 36 args) w := enters_of Tryd.func36 (by kernel_rfl) rfl

set_option maxRecDepth 100000 in
set_option maxHeartbeats 1600000 in
theorem shift_any (v : Value) (t : List Int) (d : Int) (w : World) (h : Is w v t) (hb : t.length * 8 ≤ 140737488351232) (hd1 : -9223372036854775808 ≤ d) (hd2 : d ≤ 9223372036854775807) :
    Calls Tryd.prog 19 #[v, .int .i64 d] w fun e w' => ∃ v', e = .returned (.tuple #[v', .int .i64 (shiftE d t)]) ∧ OwI w' w.heap.size v' (shiftL d t) ∧ Below w.heap.size w w' := by
  obtain ⟨ao, cap, rfl, hao, hca, q0⟩ := Row.flat h
  unfold maxLen at hca
  have HT : Hid (Is w (.slice ao t.length cap) t) := h
  have HZt : Hid (ZI t) := h.range
  clear h q0
  go_enter Tryd.func19, Tryd.ntmps19
  go_wp2_with fail
  refine (vars_any _ t _ (HT.out.kp (Kp.of_below (below_alloc _))) hb).mono ?_
  rintro e w1 ⟨v1, rfl, ho1, hb1⟩
  obtain ⟨bo, cap', rfl, hbo, hcb⟩ := ho1.shape
  unfold maxLen at hcb
  have hx0 : w1.cell? ⟨w.heap.size, 0, none⟩ = some (.int .i64 d) := (Kp.of_below hb1).cell _ _ (by rw [cell_of_row _ _ _ _ _ _ (heap_alloc_new _ _)]; rfl)
  have hszb : w.heap.size < w1.heap.size := Nat.lt_of_lt_of_le (by simp) hb1.size
  have HO : Hid (Is w1 (.slice bo (varsL t).length cap') (varsL t)) := ho1.is
  have HX0 : Hid (w1.cell? ⟨w.heap.size, 0, none⟩ = some (.int .i64 d)) := hx0
  have HB1 : Hid (Below w.heap.size w w1) := below_step (below_alloc _) hb1
  clear ho1 hb1
  go_wp2
  go_loopw [11] (fun i wr => ∃ k : Nat, k ≤ (varsL t).length ∧ i = .int .i64 k ∧ (∀ (j : Nat) (x : Int), j < k → (varsL t)[j]? = some x → isVarB (x + d) = true) ∧ wr = w1) (fun i _ => (varsL t).length - (intOf i).toNat)
  case atStart => exact ⟨0, Nat.zero_le _, rfl, fun j x hj => absurd hj (by omega), rfl⟩
  case round =>
    obtain ⟨k, hk, rfl, hall, hw1⟩ := hrel
    have hw8 := hw1.symm
    subst hw8
    have HAll : Hid (∀ (j : Nat) (x : Int), j < k → (varsL t)[j]? = some x → isVarB (x + d) = true) := hall
    clear hall hw1
    by_cases hlt : k < (varsL t).length
    · obtain ⟨g, off, x, rfl, hx1, hx2, hx3, hx4⟩ := HO.out.at hlt
      have HX : Hid ((varsL t)[k]? = some x) := hx1
      have hx0' : 0 ≤ x := by
        obtain ⟨c, _, h2, rfl⟩ := mem_varsL.1 (List.mem_of_getElem? hx1)
        omega
      have hwr := isVar_wrap hx0' hx4 hd1 hd2
      clear hx1
      cases hv : isVarB (x + d)
      · have HF : Hid (shiftE d t = 40 ∧ shiftL d t = []) := by
          have : ¬ okShift d t = true := fun hh => by
            have := okShift_vars.1 hh x (List.mem_of_getElem? HX.out)
            rw [hv] at this
            cases this
          unfold shiftE shiftL
          rw [if_neg this, if_neg this]
          exact ⟨rfl, rfl⟩
        rw [hv] at hwr
        go_wp2_with fail
        refine (isVariable_any _ _).mono ?_
        rw [hwr]
        rintro e w9 ⟨rfl, hw9⟩
        have hw8 := hw9.symm
        subst hw8
        clear hw9 hwr
        go_wp2
        go_ret2
        exact ⟨_, ret2i HF.out.1.symm, by rw [HF.out.2]; exact ⟨fun k x hk => (by simp at hk), World.ownsRow_nil _ _ _ _⟩, HB1.out⟩
      · rw [hv] at hwr
        have HVx : Hid (isVarB (x + d) = true) := hv
        go_wp2_with fail
        refine (isVariable_any _ _).mono ?_
        rw [hwr]
        rintro e w9 ⟨rfl, hw9⟩
        have hw8 := hw9.symm
        subst hw8
        clear hw9 hwr hv
        go_wp2
        go_roundw
        case rel =>
          refine ⟨k + 1, by omega, by go_num, fun j y hj hy => ?_, trivial⟩
          by_cases hjk : j = k
          · subst hjk; rw [HX.out] at hy; cases hy; exact HVx.out
          · exact HAll.out j y (by omega) hy
        case measure => simp [intOf]; omega
    · have HOk : Hid (okShift d t = true) := by
        refine okShift_vars.2 fun x hx => ?_
        obtain ⟨j, hj⟩ := List.mem_iff_getElem?.1 hx
        exact HAll.out j x (by have := (List.getElem?_eq_some_iff.1 hj).1; omega) hj
      go_wp2_with fail
      obtain ⟨gb, hgb⟩ : ∃ gb, gb = w.heap.size := ⟨_, rfl⟩
      rw [← hgb] at hszb HX0 ⊢
      refine (renumber_any (σ := Unit) (fun w _ => w.cell? ⟨gb, 0, none⟩ = some (.int .i64 d)) (fun _ n => (n + d, ())) (fun n => isVarB (n + d) = true) gb 36 (.pointer (some ⟨gb, 0, none⟩)) (.slice ao t.length cap) t () _ (fun _ => 0) (fun _ _ => by omega) hszb HX0.out hb ?_ ?_ ?_ ?_ ?_ enterShift).mono ?_
      · intro a b _ r ha hg hr _ hlt
        rw [World.cell?_of_block (hg.block gb hlt (fun e => hr e.symm))]
        exact ha
      · intro w' hg
        refine HT.out.kp ⟨Nat.le_trans HB1.out.size hg.size, fun a v hv => ?_⟩
        have hlt := World.block_lt_of_cell? w a hv
        rw [World.cell?_of_block (hg.block a.block (Nat.lt_of_lt_of_le hlt HB1.out.size) (by simp; omega))]
        exact (Kp.of_below HB1.out).cell _ _ hv
      · intro n _ a hn ha _
        have := isVarB_iff.1 hn
        exact (shiftFn_any n d gb a ha ⟨by omega, by omega⟩).mono (fun e w2 ⟨he, hw⟩ => ⟨he, by rw [hw]; exact ha, by rw [hw]; exact World.grownBy.refl _ _⟩)
      · intro _ n _ hn _ _
        have := isVarB_iff.1 hn
        simp only
        omega
      · intro c hc h0
        exact okShift_vars.1 HOk.out _ (mem_varsL.2 ⟨c, hc, h0, rfl⟩)
      · rintro e w2 ⟨v2, rfl, ho2, _, hg2⟩
        have HF : Hid (shiftE d t = 0 ∧ shiftL d t = t.map fun c => if c < 0 then c - d else c) := by
          unfold shiftE shiftL
          rw [if_pos HOk.out, if_pos HOk.out]
          exact ⟨rfl, rfl⟩
        rw [renG_shift] at ho2
        have HO2 : Hid (OwI w2 w.heap.size v2 (shiftL d t)) := by
          show OwI _ _ _ _
          rw [HF.out.2]
          exact ho2.mono HB1.out.size
        have HB2 : Hid (Below w.heap.size w w2) := HB1.out.grown hg2 HB1.out.size (fun j hj => by cases hj; omega)
        clear ho2 hg2 hgb
        go_wp2
        go_ret2
        exact ⟨_, ret2i HF.out.1.symm, HO2.out, HB2.out⟩

end Go.Proofs.YtpnkplidhbbliaaDoor

/- What Canon answers. -/
namespace Go.Proofs.YtpnkplidhbbliaaDoor
open Go.RowKit Go.Maps

/-- The numbers met, the last one first, with what they became. -/
abbrev Met := List (Int × Int)
def metV (m : Met) : List (Int × Value) := m.map fun p => (p.1, .int .i64 p.2)
def numN (m : Met) (n : Int) : Int × Met := match m.lookup n with | some i => (i, m) | none => ((m.length : Int), (n, (m.length : Int)) :: m)

theorem metV_lookup (n : Int) : ∀ m : Met, (metV m).lookup n = (m.lookup n).map (Value.int .i64)
  | [] => rfl
  | (k, i) :: m => by
    show List.lookup n ((k, _) :: metV m) = _
    rw [List.lookup_cons, List.lookup_cons]
    cases n == k with
    | true => rfl
    | false => exact metV_lookup n m

/-- The closure of numbersAsMet. -/
def NumSt (b bx : Nat) (w : World) (m : Met) : Prop := w.cell? ⟨bx, 0, none⟩ = some (.map (some b)) ∧ MapV w b (metV m) ∧ m.length ≤ 9223372036854775806

end Go.Proofs.YtpnkplidhbbliaaDoor

/- What Canon answers. -/
namespace Go.Proofs.YtpnkplidhbbliaaDoor
open Go.RowKit Go.Maps

def ER (w : World) (g o : Nat) (x : List Int) : Prop := x.length * 8 ≤ 140737488351232 ∧ ∃ u, w.cell? ⟨g, o, none⟩ = some u ∧ Is w u x
theorem ER.kp {w w' : World} (hk : Kp w w') (g o : Nat) (x : List Int) (h : ER w g o x) : ER w' g o x := by
  obtain ⟨h0, u, h1, h2⟩ := h
  exact ⟨h0, u, hk.cell _ _ h1, h2.kp hk⟩

/-- A list of rows. -/
def Rs (w : World) (v : Value) (l : List (List Int)) : Prop := Row ER 1 w v l
theorem Rs.kp {w w' : World} {v : Value} {l : List (List Int)} (h : Rs w v l) (hk : Kp w w') : Rs w' v l := Row.imp h hk.size (ER.kp hk)

theorem Rs.at {w : World} {ao : Option Addr} {n cap : Nat} {l : List (List Int)} (h : Rs w (.slice ao n cap) l) {k : Nat} (hk : k < l.length) :
    ∃ g off a t c, ao = some ⟨g, off, none⟩ ∧ l[k]? = some t ∧ w.cell? ⟨g, off + k, none⟩ = some (.slice a t.length c) ∧ Is w (.slice a t.length c) t ∧ t.length * 8 ≤ 140737488351232 := by
  obtain ⟨ao', cap', hv, _, _, hx⟩ := Row.flat h
  simp only [Value.slice.injEq] at hv
  obtain ⟨rfl, rfl, rfl⟩ := hv
  obtain ⟨g, off, t, rfl, hm, h3, v, h5, h6⟩ := hx k hk
  obtain ⟨a, c, rfl, _⟩ := Row.flat h6
  rw [Nat.mul_one] at h5
  exact ⟨g, off, a, t, c, rfl, hm, h5, h6, h3⟩

def canG : Met → List (List Int) → List (List Int)
  | _, [] => []
  | m, t :: l => (renG numN m t).1 :: canG (renG numN m t).2 l

def canL (l : List (List Int)) : List (List Int) := canG [] l

/-- Rows of one's own, by their values. -/
def OwR (w : World) (base : Nat) (vs : List Value) (l : List (List Int)) : Prop := vs.length = l.length ∧ ∀ (j : Nat) (u : Value) (x : List Int), vs[j]? = some u → l[j]? = some x → OwI w base u x

def NumOk (b bx : Nat) (w : World) (m : Met) : Prop := w.cell? ⟨bx, 0, none⟩ = some (.map (some b)) ∧ MapV w b (metV m) ∧ ∀ p ∈ m, 0 ≤ p.2 ∧ p.2 < (m.length : Int)

theorem numN_len (m : Met) (n : Int) : (numN m n).2.length ≤ m.length + 1 := by
  unfold numN
  split <;> simp

theorem numN_in {m : Met} {n : Int} (h : ∀ p ∈ m, 0 ≤ p.2 ∧ p.2 < (m.length : Int)) : (0 ≤ (numN m n).1 ∧ (numN m n).1 ≤ (m.length : Int)) ∧ ∀ p ∈ (numN m n).2, 0 ≤ p.2 ∧ p.2 < ((numN m n).2.length : Int) := by
  unfold numN
  split
  · rename_i i hi
    have := h _ (lookup_mem hi)
    exact ⟨by simp only at this ⊢; omega, h⟩
  · refine ⟨by simp only; omega, fun p hp => ?_⟩
    simp only [List.length_cons]
    cases hp with
    | head => simp only; omega
    | tail _ hp => have := h p hp; omega

theorem info_ints : (Tryd.prog.info? 23).map (fun i => (i.zero, i.size, i.bytes)) = some (some (.slice none 0 0), 1, 24) := by kernel_rfl
theorem under_rows : Tryd.prog.underlying 78 = some (.slice 23) := by kernel_rfl

theorem made_nilS (n : Nat) : (madeCells (Value.slice none 0 0).cells (n * 1)).toList = List.replicate n (.slice none 0 0) := by
  have : (Value.slice none 0 0).cells = #[Value.slice none 0 0] := rfl
  rw [this, toList_madeCells_one, Nat.mul_one]

theorem own_lt {w : World} {base g n c m : Nat} {e : TypeId} {s : Nat} {xs : List Value} (h : w.ownsRow base e s (.slice (some ⟨g, 0, none⟩) n c) m xs) : g < w.heap.size := by
  rcases h.2 with ⟨hv, _⟩ | ⟨g', cap, cur, hv, _, hg, _⟩
  · cases hv
  · cases hv
    exact (Array.getElem?_eq_some_iff.1 hg).1

theorem sum_take : ∀ (l : List (List Int)) (k : Nat), ((l.take k).map List.length).sum ≤ (l.map List.length).sum
  | [], k => by simp
  | a :: l, 0 => by simp
  | a :: l, k + 1 => by
    have := sum_take l k
    simp only [List.take_succ_cons, List.map_cons, List.sum_cons]
    omega

theorem renG_len : ∀ (t : List Int) (m : Met), (renG numN m t).2.length ≤ m.length + t.length
  | [], m => by simp [renG]
  | c :: t, m => by
    unfold renG
    split
    · have h1 := renG_len t (numN m (-1 - c)).2
      have h2 := numN_len m (-1 - c)
      simp only [List.length_cons]
      omega
    · have h1 := renG_len t m
      simp only [List.length_cons]
      omega

end Go.Proofs.YtpnkplidhbbliaaDoor

/- Literal rows in memory. -/
namespace Go.Proofs.YtpnkplidhbbliaaDoor
open Go.RowKit Go.Maps Go.BigFrame

theorem is_new (w : World) (xs : List Int) (t : TypeId) (hz : ∀ x ∈ xs, -9223372036854775808 ≤ x ∧ x ≤ 9223372036854775807) (hl : xs.length ≤ 1000) : Is (w.alloc (.cells (xs.map I64).toArray t)) (.slice (some ⟨w.heap.size, 0, none⟩) xs.length xs.length) xs := by
  refine ⟨some ⟨w.heap.size, 0, none⟩, xs.length, rfl, Nat.le_refl _, by unfold maxLen; omega, fun _ => ⟨w.heap.size, 0, rfl, by simp, fun k x hk => ?_⟩⟩
  refine ⟨(hz x (List.mem_of_getElem? hk)).1, (hz x (List.mem_of_getElem? hk)).2, ?_⟩
  rw [Nat.mul_one, Nat.zero_add, cell_of_row _ _ _ _ _ _ (heap_alloc_new _ _)]
  simp [hk, I64]

/-- Binds one behind the other. -/
def EBs (w : World) (g : Nat) : Nat → List Bd → Prop
  | _, [] => True
  | o, b :: r => EB w g o b ∧ EBs w g (o + 2) r

theorem EBs.get {w : World} {g : Nat} : ∀ {p : List Bd} {o k : Nat} {m : Bd}, EBs w g o p → p[k]? = some m → EB w g (o + k * 2) m
  | [], _, _, _, _, h => by simp at h
  | x :: r, o, 0, m, h, hk => by
    simp at hk
    subst hk
    exact h.1
  | x :: r, o, k + 1, m, h, hk => by
    have := EBs.get h.2 (k := k) (by simpa using hk)
    rw [show o + (k + 1) * 2 = o + 2 + k * 2 by omega]
    exact this

theorem bs_lit {w : World} {g : Nat} {p : List Bd} (hg : g < w.heap.size) (hl : p.length ≤ 9) (h : EBs w g 0 p) : Bs w (.slice (some ⟨g, 0, none⟩) p.length p.length) p := by
  refine ⟨_, p.length, rfl, Nat.le_refl _, by unfold maxLen; omega, fun _ => ⟨g, 0, rfl, hg, fun k m hk => ?_⟩⟩
  have := h.get hk
  rwa [Nat.zero_add] at this ⊢

def ESs (w : World) (g : Nat) : Nat → List Sy → Prop
  | _, [] => True
  | o, b :: r => ES w g o b ∧ ESs w g (o + 2) r

theorem ESs.get {w : World} {g : Nat} : ∀ {p : List Sy} {o k : Nat} {m : Sy}, ESs w g o p → p[k]? = some m → ES w g (o + k * 2) m
  | [], _, _, _, _, h => by simp at h
  | x :: r, o, 0, m, h, hk => by
    simp at hk
    subst hk
    exact h.1
  | x :: r, o, k + 1, m, h, hk => by
    have := ESs.get h.2 (k := k) (by simpa using hk)
    rw [show o + (k + 1) * 2 = o + 2 + k * 2 by omega]
    exact this

theorem sg_lit {w : World} {g : Nat} {p : List Sy} (hg : g < w.heap.size) (hl : p.length ≤ 9) (h : ESs w g 0 p) : Sg w (.slice (some ⟨g, 0, none⟩) p.length p.length) p := by
  refine ⟨_, p.length, rfl, Nat.le_refl _, by unfold maxLen; omega, fun _ => ⟨g, 0, rfl, hg, fun k m hk => ?_⟩⟩
  have := h.get hk
  rwa [Nat.zero_add] at this ⊢

def ERs (w : World) (g : Nat) : Nat → List (List Int) → Prop
  | _, [] => True
  | o, b :: r => ER w g o b ∧ ERs w g (o + 1) r

theorem ERs.get {w : World} {g : Nat} : ∀ {p : List (List Int)} {o k : Nat} {m : List Int}, ERs w g o p → p[k]? = some m → ER w g (o + k * 1) m
  | [], _, _, _, _, h => by simp at h
  | x :: r, o, 0, m, h, hk => by
    simp at hk
    subst hk
    exact h.1
  | x :: r, o, k + 1, m, h, hk => by
    have := ERs.get h.2 (k := k) (by simpa using hk)
    rw [show o + (k + 1) * 1 = o + 1 + k * 1 by omega]
    exact this

theorem rs_lit {w : World} {g : Nat} {p : List (List Int)} (hg : g < w.heap.size) (hl : p.length ≤ 9) (h : ERs w g 0 p) : Rs w (.slice (some ⟨g, 0, none⟩) p.length p.length) p := by
  refine ⟨_, p.length, rfl, Nat.le_refl _, by unfold maxLen; omega, fun _ => ⟨g, 0, rfl, hg, fun k m hk => ?_⟩⟩
  have := h.get hk
  rwa [Nat.zero_add] at this ⊢

theorem cell_new {w : World} {t : TypeId} {vs : Array Value} {k : Nat} {v : Value} (hv : vs[k]? = some v) : (w.alloc (.cells vs t)).cell? ⟨w.heap.size, k, none⟩ = some v := by
  rw [cell_of_row _ _ _ _ _ _ (heap_alloc_new _ _)]
  simpa using hv

theorem cell_old {w : World} {o : Obj} {g k : Nat} {v : Value} (h : w.cell? ⟨g, k, none⟩ = some v) : (w.alloc o).cell? ⟨g, k, none⟩ = some v := (Kp.of_below (below_alloc o)).cell _ _ h

def sumS : List Sy := [(⟨#[122, 101, 114, 111]⟩, 0), (⟨#[115]⟩, 1), (⟨#[112, 108, 117, 115]⟩, 2)]

theorem applyE_1 : applyE sumS [(0, [1, -2]), (1, [0])] [2, -1, -2] = 0 := by kernel_rfl
theorem applyL_1 : applyL sumS [(0, [1, -2]), (1, [0])] [2, -1, -2] = [2, 1, -2, 0] := by kernel_rfl
theorem bindE_1 : bindE sumS [(2, [0]), (2, [0])] = 41 := by kernel_rfl
theorem bindE_2 : bindE sumS [(0, [1])] = 31 := by kernel_rfl
theorem shift_1 : shiftE 3 [2, -1, -2] = 0 := by kernel_rfl
theorem shift_2 : shiftL 3 [2, -1, -2] = [2, -4, -5] := by kernel_rfl
theorem shift_3 : shiftE (-3) [-3] = 40 := by kernel_rfl
theorem canon_1 : canL [[2, -7, -3], [-3, -9]] = [[2, -1, -2], [-2, -3]] := by kernel_rfl

end Go.Proofs.YtpnkplidhbbliaaDoor

/- The calls of the examples. -/
namespace Go.Proofs.YtpnkplidhbbliaaDoor
open Go.RowKit Go.Maps Go.BigFrame

theorem b0 {w : World} : Below w.heap.size w w := Below.refl _ _
theorem b1 {w w' : World} {o : Obj} (h : Below w.heap.size w w') : Below w.heap.size w (w'.alloc o) := below_step h (below_alloc o)

def EIs (w : World) (g : Nat) : Nat → List Int → Prop
  | _, [] => True
  | o, x :: r => EI w g o x ∧ EIs w g (o + 1) r

theorem EIs.get {w : World} {g : Nat} : ∀ {p : List Int} {o k : Nat} {m : Int}, EIs w g o p → p[k]? = some m → EI w g (o + k * 1) m
  | [], _, _, _, _, h => by simp at h
  | x :: r, o, 0, m, h, hk => by
    simp at hk
    subst hk
    exact h.1
  | x :: r, o, k + 1, m, h, hk => by
    have := EIs.get h.2 (k := k) (by simpa using hk)
    rw [show o + (k + 1) * 1 = o + 1 + k * 1 by omega]
    exact this

theorem is_lit {w : World} {g : Nat} {p : List Int} (hg : g < w.heap.size) (hl : p.length ≤ 9) (h : EIs w g 0 p) : Is w (.slice (some ⟨g, 0, none⟩) p.length p.length) p := by
  refine ⟨_, p.length, rfl, Nat.le_refl _, by unfold maxLen; omega, fun _ => ⟨g, 0, rfl, hg, fun k m hk => ?_⟩⟩
  have := h.get hk
  rwa [Nat.zero_add] at this ⊢

theorem cell_newg {w : World} {t : TypeId} {vs : Array Value} {g k : Nat} {v : Value} (hg : g = w.heap.size) (hv : vs[k]? = some v) : (w.alloc (.cells vs t)).cell? ⟨g, k, none⟩ = some v := by
  subst hg
  exact cell_new hv

theorem ei {w : World} {g o : Nat} {x : Int} (h1 : -9223372036854775808 ≤ x) (h2 : x ≤ 9223372036854775807) (h : w.cell? ⟨g, o, none⟩ = some (.int .i64 x)) : EI w g o x := ⟨h1, h2, h⟩

theorem w_apply (w : World) : ∀ W, W = ((((w.alloc (Obj.cells #[Value.int IntKind.i64 1, Value.int IntKind.i64 (-2)] 3)).alloc (Obj.cells #[Value.int IntKind.i64 0] 3)).alloc (Obj.cells #[Value.int IntKind.i64 0, Value.slice (some ⟨w.heap.size, 0, none⟩) 2 2, Value.int IntKind.i64 1, Value.slice (some ⟨w.heap.size + 1, 0, none⟩) 1 1] 31)).alloc (Obj.cells #[Value.int IntKind.i64 2, Value.int IntKind.i64 (-1), Value.int IntKind.i64 (-2)] 3)) →
    Is W (.slice (some ⟨w.heap.size + 1 + 1 + 1, 0, none⟩) 3 3) [2, -1, -2] ∧ Bs W (.slice (some ⟨w.heap.size + 1 + 1, 0, none⟩) 2 2) [(0, [1, -2]), (1, [0])] ∧ Below w.heap.size w W := by
  intro W hW
  have hsz : W.heap.size = w.heap.size + 4 := by rw [hW]; simp
  have i1 : Is W (.slice (some ⟨w.heap.size, 0, none⟩) 2 2) [1, -2] := by
    refine is_lit (p := [1, -2]) (by omega) (by decide) ⟨ei (by omega) (by omega) ?_, ei (by omega) (by omega) ?_, trivial⟩ <;> (rw [hW]; repeat (first | (refine cell_newg ?_ rfl; simp; done) | refine cell_old ?_))
  have i2 : Is W (.slice (some ⟨w.heap.size + 1, 0, none⟩) 1 1) [0] := by
    refine is_lit (p := [0]) (by omega) (by decide) ⟨ei (by omega) (by omega) ?_, trivial⟩ <;> (rw [hW]; repeat (first | (refine cell_newg ?_ rfl; simp; done) | refine cell_old ?_))
  refine ⟨?_, ?_, by rw [hW]; exact b1 (b1 (b1 (b1 b0)))⟩
  · refine is_lit (p := [2, -1, -2]) (by omega) (by decide) ⟨ei (by omega) (by omega) ?_, ei (by omega) (by omega) ?_, ei (by omega) (by omega) ?_, trivial⟩ <;> (rw [hW]; repeat (first | (refine cell_newg ?_ rfl; simp; done) | refine cell_old ?_))
  · refine bs_lit (p := [(0, [1, -2]), (1, [0])]) (by omega) (by decide) ⟨⟨by decide, by decide, by decide, ?_, _, ?_, i1⟩, ⟨by decide, by decide, by decide, ?_, _, ?_, i2⟩, trivial⟩ <;> (rw [hW]; repeat (first | (refine cell_newg ?_ rfl; simp; done) | refine cell_old ?_))

end Go.Proofs.YtpnkplidhbbliaaDoor

/- What the document's Check of binds, bound, Laid and Apply answer. -/
namespace Go.Proofs.YtpnkplidhbbliaaDoor
open Go.RowKit Go.Maps Go.BigFrame

end Go.Proofs.YtpnkplidhbbliaaDoor

/- What the document's Laid and Apply answer. -/
namespace Go.Proofs.YtpnkplidhbbliaaDoor
open Go.RowKit Go.Maps Go.BigFrame

theorem look_rise : ∀ {s : List Bd}, s.Pairwise (fun a b => a.1 < b.1) → ∀ n, s.lookup n = s.reverse.lookup n
  | [], _, _ => rfl
  | (x, t) :: s, h, n => by
    obtain ⟨h1, h2⟩ := List.pairwise_cons.1 h
    rw [List.reverse_cons, List.lookup_cons]
    have ih := look_rise h2 n
    have happ : ∀ (l : List Bd), (l ++ [(x, t)]).lookup n = (match l.lookup n with | some y => some y | none => if n == x then some t else none) := by
      intro l
      induction l with
      | nil =>
        rw [List.nil_append, List.lookup_cons]
        cases n == x <;> rfl
      | cons a l il =>
        obtain ⟨k, v⟩ := a
        rw [List.cons_append, List.lookup_cons, List.lookup_cons]
        cases n == k with
        | true => rfl
        | false => exact il
    rw [happ, ← ih]
    cases hk : n == x with
    | true =>
      rw [beq_iff_eq] at hk
      subst hk
      cases hl : s.lookup n with
      | none => rfl
      | some y =>
        have hm := lookup_mem hl
        have := h1 _ hm
        simp at this
    | false =>
      show s.lookup n = _
      cases s.lookup n <;> rfl

theorem layGo_congr {f g : Int → Option (List Int)} (h : ∀ n, f n = g n) : layGo f = layGo g := by
  have : f = g := funext h
  rw [this]

end Go.Proofs.YtpnkplidhbbliaaDoor

/- What binds make of a right term is right; two rows of binds in one. -/
namespace Go.Proofs.YtpnkplidhbbliaaDoor
open Go.RowKit Go.Maps

theorem codeD_ge {sig : List Sy} (ha : ArOk sig) {c e : Int} (h : codeD sig c = some e) : -1 ≤ e := by
  unfold codeD at h
  split at h
  · cases h
  · split at h
    · cases h; omega
    · cases hs : sig[c.toNat]? with
      | none => rw [hs] at h; cases h
      | some s =>
        rw [hs] at h
        have := ha s (List.mem_of_getElem? hs)
        simp only [Option.some.injEq] at h
        omega

theorem firstT_cons (sig : List Sy) (m : Int) (i : Nat) (c : Int) (t : List Int) : firstT sig m i (c :: t) = (match codeD sig c with | none => (0, 30) | some e => if m + e = 0 then ((i : Int) + 1, 0) else firstT sig (m + e) (i + 1) t) := rfl

theorem firstT_le (sig : List Sy) : ∀ (t : List Int) (m : Int) (i : Nat), (firstT sig m i t).2 = 0 → (firstT sig m i t).1 ≤ (i : Int) + t.length
  | [], m, i, h => by simp [firstT] at h
  | c :: t, m, i, h => by
    rw [firstT_cons] at h ⊢
    cases hc : codeD sig c with
    | none => rw [hc] at h; simp at h
    | some e =>
      rw [hc] at h
      simp only at h ⊢
      split
      · simp only [List.length_cons]; omega
      · rename_i hm
        rw [if_neg hm] at h
        have := firstT_le sig t (m + e) (i + 1) h
        simp only [List.length_cons]
        omega

theorem row_first {sig : List Sy} {t : List Int} : rowE sig t = 0 ↔ firstT sig 1 0 t = ((t.length : Int), 0) := by
  unfold rowE
  constructor
  · intro h
    split at h
    · cases h
    · rename_i hn
      have h1 := firstT_le sig t 1 0 h
      have h2 : ¬ (firstT sig 1 0 t).1 < (t.length : Int) := fun h3 => hn ⟨h, h3⟩
      refine Prod.ext ?_ h
      show (firstT sig 1 0 t).1 = _
      omega
  · intro h
    rw [h]
    simp

/-- A row that closes d terms, ahead of another one. -/
theorem first_app {sig : List Sy} (ha : ArOk sig) : ∀ (x : List Int) (d : Int) (j : Nat), 1 ≤ d → firstT sig d j x = ((j : Int) + x.length, 0) → ∀ (m : Int) (i : Nat) (r : List Int), d ≤ m → firstT sig m i (x ++ r) = if m = d then ((i : Int) + x.length, 0) else firstT sig (m - d) (i + x.length) r
  | [], d, j, hd, h, m, i, r, hm => by simp [firstT] at h
  | c :: x, d, j, hd, h, m, i, r, hm => by
    rw [List.cons_append]
    rw [firstT_cons] at h ⊢
    cases hc : codeD sig c with
    | none => rw [hc] at h; simp at h
    | some e =>
      rw [hc] at h
      simp only at h ⊢
      have he := codeD_ge ha hc
      by_cases h0 : d + e = 0
      · rw [if_pos h0] at h
        have hx : x = [] := by
          have := congrArg Prod.fst h
          simp only [List.length_cons] at this
          exact List.eq_nil_of_length_eq_zero (by omega)
        subst hx
        by_cases hmd : m = d
        · rw [if_pos (by omega), if_pos hmd]; simp
        · rw [if_neg (by omega), if_neg hmd, show m + e = m - d by omega]; simp
      · rw [if_neg h0] at h
        rw [if_neg (by omega), first_app ha x (d + e) (j + 1) (by omega) (by rw [h]; simp only [List.length_cons, Prod.mk.injEq, and_true]; omega) (m + e) (i + 1) r (by omega)]
        by_cases hmd : m = d
        · rw [if_pos hmd, if_pos (by omega)]
          simp only [List.length_cons, Prod.mk.injEq, and_true]
          omega
        · rw [if_neg hmd, if_neg (by omega), show m + e - (d + e) = m - d by omega, List.length_cons, show i + 1 + x.length = i + (x.length + 1) by omega]

/-- Right pieces make a right row of a right row. -/
theorem first_laid {sig : List Sy} (ha : ArOk sig) {f : Int → Option (List Int)} (hf : ∀ n u, f n = some u → rowE sig u = 0) : ∀ (t : List Int) (d : Int) (j i : Nat), 1 ≤ d → firstT sig d j t = ((j : Int) + t.length, 0) → firstT sig d i (laidL f t) = ((i : Int) + (laidL f t).length, 0)
  | [], d, j, i, hd, h => by simp [firstT] at h
  | c :: t, d, j, i, hd, h => by
    have hl : laidL f (c :: t) = piece f c ++ laidL f t := by unfold laidL; rw [List.flatMap_cons]
    rw [hl]
    rw [firstT_cons] at h
    cases hc : codeD sig c with
    | none => rw [hc] at h; simp at h
    | some e =>
      rw [hc] at h
      simp only at h
      have he := codeD_ge ha hc
      -- what is left behind the code
      have hrest : d + e = 0 → t = [] := fun h0 => by
        rw [if_pos h0] at h
        have := congrArg Prod.fst h
        simp only [List.length_cons] at this
        exact List.eq_nil_of_length_eq_zero (by omega)
      have hnext : ¬ d + e = 0 → ∀ i, firstT sig (d + e) i (laidL f t) = ((i : Int) + (laidL f t).length, 0) := fun h0 i => by
        rw [if_neg h0] at h
        exact first_laid ha hf t (d + e) (j + 1) i (by omega) (by rw [h]; simp only [List.length_cons, Prod.mk.injEq, and_true]; omega)
      have hself : firstT sig d i ([c] ++ laidL f t) = ((i : Int) + ([c] ++ laidL f t).length, 0) := by
        rw [List.singleton_append, firstT_cons, hc]
        simp only
        by_cases h0 : d + e = 0
        · rw [if_pos h0, hrest h0]
          simp [laidL]
        · rw [if_neg h0, hnext h0]
          simp only [List.length_cons, Prod.mk.injEq, and_true]
          omega
      by_cases hv : c < 0
      · cases hb : f (-1 - c) with
        | none =>
          have : piece f c = [c] := by unfold piece; rw [if_pos hv, hb]; rfl
          rw [this]
          exact hself
        | some x =>
          have hp : piece f c = x := by unfold piece; rw [if_pos hv, hb]; rfl
          have hx := row_first.1 (hf _ _ hb)
          have he1 : e = -1 := by
            have hc2 := hc
            unfold codeD at hc2
            by_cases h9 : c < -1048576
            · rw [if_pos h9] at hc2; cases hc2
            · rw [if_neg h9, if_pos hv] at hc2; cases hc2; rfl
          rw [hp, first_app ha x 1 0 (by omega) (by rw [hx]; simp) d i (laidL f t) hd]
          by_cases h0 : d + e = 0
          · rw [if_pos (by omega), hrest h0]
            simp [laidL]
          · rw [if_neg (by omega), show d - 1 = d + e by omega, hnext h0, List.length_append]
            simp only [Prod.mk.injEq, and_true]
            omega
      · have : piece f c = [c] := by unfold piece; rw [if_neg hv]
        rw [this]
        exact hself

theorem row_laid {sig : List Sy} (ha : ArOk sig) {f : Int → Option (List Int)} (hf : ∀ n u, f n = some u → rowE sig u = 0) {t : List Int} (h : rowE sig t = 0) : rowE sig (laidL f t) = 0 := by
  have h1 := first_laid ha hf t 1 0 0 (by omega) (by rw [row_first.1 h]; simp)
  exact row_first.2 (by rw [h1]; simp)

theorem bind_all (sig : List Sy) : ∀ (s : List Bd) (p : Option Int), bindGo sig p s = 0 → ∀ b ∈ s, isVarB b.1 = true ∧ termE sig b.2 = 0
  | [], _, _, b, hb => by cases hb
  | a :: r, p, h, b, hb => by
    unfold bindGo at h
    split at h
    · rename_i hv
      split at h
      · cases h
      · split at h
        · rename_i ht
          cases hb with
          | head => exact ⟨hv, ht⟩
          | tail _ hb => exact bind_all sig r (some a.1) h b hb
        · rename_i ht
          exact absurd h ht
    · cases h

theorem bind_made (sig : List Sy) : ∀ (s : List Bd) (p : Option Int), (∀ b ∈ s, isVarB b.1 = true ∧ termE sig b.2 = 0) → (∀ y, p = some y → ∀ b ∈ s, y < b.1) → s.Pairwise (fun a b => a.1 < b.1) → bindGo sig p s = 0
  | [], _, _, _, _ => rfl
  | a :: r, p, h, hp, hr => by
    obtain ⟨h1, h2⟩ := List.pairwise_cons.1 hr
    unfold bindGo
    rw [if_pos (h a (.head _)).1, if_neg (by
      cases p with
      | none => simp
      | some y =>
        have := hp y rfl a (.head _)
        simp
        omega), if_pos (h a (.head _)).2]
    exact bind_made sig r (some a.1) (fun b hb => h b (.tail _ hb)) (fun y hy b hb => by cases hy; exact h1 b hb) h2

theorem bind_parts {sig : List Sy} {s : List Bd} (h : bindE sig s = 0) : sigE sig = 0 ∧ bindGo sig none s = 0 := by
  unfold bindE at h
  split at h
  · rename_i h0; exact ⟨h0, h⟩
  · rename_i h0; exact absurd h h0

theorem rise_len : ∀ (s : List Bd) (lo : Int), s.Pairwise (fun a b => a.1 < b.1) → (∀ b ∈ s, lo ≤ b.1 ∧ b.1 < 1048576) → lo ≤ 1048576 → (s.length : Int) ≤ 1048576 - lo
  | [], lo, _, _, h => by simp; omega
  | a :: r, lo, hr, hb, h => by
    obtain ⟨h1, h2⟩ := List.pairwise_cons.1 hr
    have ha := hb a (.head _)
    have := rise_len r (a.1 + 1) h2 (fun b hm => ⟨by have := h1 b hm; omega, (hb b (.tail _ hm)).2⟩) (by omega)
    simp only [List.length_cons]
    omega

theorem binds_few {sig : List Sy} {s : List Bd} (h : bindE sig s = 0) : s.length ≤ 1048576 := by
  obtain ⟨_, h1⟩ := bind_parts h
  have h2 := rise_len s 0 (bind_rise sig s none h1).2 (fun b hb => isVarB_iff.1 (bind_all sig s none h1 b hb).1) (by omega)
  omega

/-- The binds ahead of a number; those behind it. -/
def pre (x : Int) (r : List Bd) : List Bd := r.takeWhile fun c => decide (c.1 < x)
def skipE (x : Int) : List Bd → List Bd
  | [] => []
  | c :: r => if c.1 = x then r else c :: r
def post (x : Int) (r : List Bd) : List Bd := skipE x (r.dropWhile fun c => decide (c.1 < x))

/-- Two rows of binds in one: g is done to the first one's terms. -/
def merge (g : List Int → List Int) : List Bd → List Bd → List Bd
  | [], r => r
  | b :: s, r => pre b.1 r ++ (b.1, g b.2) :: merge g s (post b.1 r)

theorem merge_cons (g : List Int → List Int) (b : Bd) (s r : List Bd) : merge g (b :: s) r = pre b.1 r ++ (b.1, g b.2) :: merge g s (post b.1 r) := rfl

theorem merge_less (g : List Int → List Int) (b c : Bd) (s r : List Bd) (h : c.1 < b.1) : merge g (b :: s) (c :: r) = c :: merge g (b :: s) r := by
  rw [merge_cons, merge_cons]
  unfold pre post
  rw [List.takeWhile_cons, List.dropWhile_cons, decide_eq_true h]
  simp

theorem merge_same (g : List Int → List Int) (b c : Bd) (s r : List Bd) (h : c.1 = b.1) : merge g (b :: s) (c :: r) = (b.1, g b.2) :: merge g s r := by
  rw [merge_cons]
  unfold pre post
  rw [List.takeWhile_cons, List.dropWhile_cons, decide_eq_false (by omega)]
  simp [skipE, h]

theorem merge_more (g : List Int → List Int) (b : Bd) (s r : List Bd) (h : ∀ c, r[0]? = some c → b.1 < c.1) : merge g (b :: s) r = (b.1, g b.2) :: merge g s r := by
  cases r with
  | nil => rfl
  | cons c r =>
    have hc := h c rfl
    rw [merge_cons]
    unfold pre post
    rw [List.takeWhile_cons, List.dropWhile_cons, decide_eq_false (by omega)]
    have : ¬ c.1 = b.1 := by omega
    simp [skipE, this]

theorem look_app (n : Int) : ∀ (l m : List Bd), (l ++ m).lookup n = (l.lookup n).or (m.lookup n)
  | [], m => by simp
  | (k, v) :: l, m => by
    rw [List.cons_append, List.lookup_cons, List.lookup_cons]
    cases n == k with
    | true => rfl
    | false => exact look_app n l m

theorem look_none_lt {x n : Int} {l : List Bd} (h : ∀ b ∈ l, x < b.1) (hn : n ≤ x) : l.lookup n = none := by
  cases hl : l.lookup n with
  | none => rfl
  | some u =>
    have := h _ (lookup_mem hl)
    simp only at this
    omega

theorem pre_lt {x : Int} : ∀ {r : List Bd} {b : Bd}, b ∈ pre x r → b.1 < x
  | [], b, h => by simp [pre] at h
  | c :: r, b, h => by
    unfold pre at h
    rw [List.takeWhile_cons] at h
    split at h
    · rename_i hc
      cases h with
      | head => exact of_decide_eq_true hc
      | tail _ h => exact pre_lt (r := r) h
    · cases h

theorem pre_sub {x : Int} {r : List Bd} {b : Bd} (h : b ∈ pre x r) : b ∈ r := List.takeWhile_sublist _ |>.subset h

theorem drop_ge {x : Int} : ∀ {r : List Bd}, r.Pairwise (fun a b => a.1 < b.1) → ∀ b ∈ r.dropWhile (fun c => decide (c.1 < x)), x ≤ b.1
  | [], _, b, h => by cases h
  | c :: r, hr, b, h => by
    obtain ⟨h1, h2⟩ := List.pairwise_cons.1 hr
    rw [List.dropWhile_cons] at h
    split at h
    · exact drop_ge h2 b h
    · rename_i hc
      have hc' : x ≤ c.1 := by simpa using hc
      cases h with
      | head => exact hc'
      | tail _ h => have := h1 b h; omega

theorem skip_sub {x : Int} {r : List Bd} {b : Bd} (h : b ∈ skipE x r) : b ∈ r := by
  cases r with
  | nil => cases h
  | cons c r =>
    by_cases hc : c.1 = x
    · simp only [skipE, if_pos hc] at h
      exact .tail _ h
    · simp only [skipE, if_neg hc] at h
      exact h

theorem post_facts {x : Int} {r : List Bd} (hr : r.Pairwise (fun a b => a.1 < b.1)) : (∀ b ∈ post x r, b ∈ r ∧ x < b.1) ∧ (post x r).Pairwise (fun a b => a.1 < b.1) ∧ ∀ n, n ≠ x → r.lookup n = ((pre x r).lookup n).or ((post x r).lookup n) := by
  have hd := drop_ge (x := x) hr
  have hdp : (r.dropWhile fun c => decide (c.1 < x)).Pairwise (fun a b => a.1 < b.1) := hr.sublist (List.dropWhile_sublist _)
  have hsub : ∀ b ∈ r.dropWhile (fun c => decide (c.1 < x)), b ∈ r := fun b hb => (List.dropWhile_sublist _).subset hb
  have hsplit : ∀ n, r.lookup n = ((pre x r).lookup n).or ((r.dropWhile fun c => decide (c.1 < x)).lookup n) := fun n => by
    rw [← look_app]
    unfold pre
    rw [List.takeWhile_append_dropWhile]
  unfold post
  generalize (r.dropWhile fun c => decide (c.1 < x)) = q at hd hdp hsub hsplit
  cases q with
  | nil => exact ⟨fun b hb => (by cases hb), List.Pairwise.nil, fun n _ => hsplit n⟩
  | cons c q =>
    obtain ⟨h1, h2⟩ := List.pairwise_cons.1 hdp
    by_cases hc : c.1 = x
    · simp only [skipE, if_pos hc]
      refine ⟨fun b hb => ⟨hsub b (.tail _ hb), by have := h1 b hb; omega⟩, h2, fun n hn => ?_⟩
      rw [hsplit n]
      congr 1
      obtain ⟨k, v⟩ := c
      rw [List.lookup_cons, show (n == k) = false by rw [beq_eq_false_iff_ne]; simp only at hc; omega]
    · simp only [skipE, if_neg hc]
      refine ⟨fun b hb => ⟨hsub b hb, ?_⟩, hdp, fun n _ => hsplit n⟩
      cases hb with
      | head => have := hd c (.head _); omega
      | tail _ hb => have := h1 b hb; have := hd c (.head _); omega

theorem merge_facts (g : List Int → List Int) : ∀ (s r : List Bd), s.Pairwise (fun a b => a.1 < b.1) → r.Pairwise (fun a b => a.1 < b.1) →
    (∀ b ∈ merge g s r, b ∈ r ∨ ∃ a ∈ s, b = (a.1, g a.2)) ∧ (merge g s r).Pairwise (fun a b => a.1 < b.1) ∧ ∀ n, (merge g s r).lookup n = match s.lookup n with | some u => some (g u) | none => r.lookup n
  | [], r, _, hr => ⟨fun b hb => .inl hb, hr, fun n => rfl⟩
  | a :: s, r, hs, hr => by
    obtain ⟨h1, h2⟩ := List.pairwise_cons.1 hs
    obtain ⟨p1, p2, p3⟩ := post_facts (x := a.1) hr
    obtain ⟨m1, m2, m3⟩ := merge_facts g s (post a.1 r) h2 p2
    have hgt : ∀ b ∈ merge g s (post a.1 r), a.1 < b.1 := fun b hb => by
      rcases m1 b hb with h | ⟨c, hc, rfl⟩
      · exact (p1 b h).2
      · exact h1 c hc
    refine ⟨fun b hb => ?_, ?_, fun n => ?_⟩
    · rw [merge_cons] at hb
      rcases List.mem_append.1 hb with hb | hb
      · exact .inl (pre_sub hb)
      · cases hb with
        | head => exact .inr ⟨a, .head _, rfl⟩
        | tail _ hb =>
          rcases m1 b hb with h | ⟨c, hc, e⟩
          · exact .inl (p1 b h).1
          · exact .inr ⟨c, .tail _ hc, e⟩
    · rw [merge_cons, List.pairwise_append]
      refine ⟨hr.sublist (List.takeWhile_sublist _), List.Pairwise.cons hgt m2, fun b hb c hc => ?_⟩
      have h3 := pre_lt hb
      cases hc with
      | head => exact h3
      | tail _ hc => have := hgt c hc; omega
    · rw [merge_cons]
      obtain ⟨x, u⟩ := a
      simp only at h1 p1 p3 m3 hgt ⊢
      rw [look_app, List.lookup_cons, List.lookup_cons]
      by_cases hn : n = x
      · subst hn
        rw [show (n == n) = true by simp]
        have : (pre n r).lookup n = none := by
          cases hl : (pre n r).lookup n with
          | none => rfl
          | some y =>
            have := pre_lt (lookup_mem hl)
            simp at this
        rw [this]
        rfl
      · rw [show (n == x) = false by rw [beq_eq_false_iff_ne]; exact hn]
        simp only
        rw [m3 n, p3 n hn]
        cases hl : (pre x r).lookup n with
        | none =>
          cases s.lookup n <;> rfl
        | some y =>
          have hlt := pre_lt (lookup_mem hl)
          simp only at hlt
          have : s.lookup n = none := look_none_lt h1 (by omega)
          rw [this]

theorem laid_none (t : List Int) : laidL (bnd []) t = t := by
  induction t with
  | nil => rfl
  | cons c t ih =>
    have : laidL (bnd []) (c :: t) = piece (bnd []) c ++ laidL (bnd []) t := by unfold laidL; rw [List.flatMap_cons]
    rw [this, ih]
    unfold piece bnd
    split <;> rfl

theorem apply_ok {sig : List Sy} {s : List Bd} {t : List Int} (h : applyE sig s t = 0) : bindE sig s = 0 ∧ termE sig t = 0 ∧ (laidL (bnd s) t).length ≤ 512 ∧ applyL sig s t = laidL (bnd s) t := by
  unfold applyE at h
  split at h
  · rename_i hb
    split at h
    · rename_i ht
      obtain ⟨e1, e2⟩ := lay_eq (bnd s) t
      rw [e1] at h
      have hl : ¬ 512 < (laidL (bnd s) t).length := fun h9 => by rw [if_pos h9] at h; cases h
      refine ⟨hb, ht, by omega, ?_⟩
      unfold applyL
      rw [if_pos hb, if_pos ht, e2, if_neg hl]
    · rename_i ht; exact absurd h ht
  · rename_i hb; exact absurd h hb

theorem apply_of {sig : List Sy} {s : List Bd} {t : List Int} (hb : bindE sig s = 0) (ht : termE sig t = 0) : applyE sig s t = (if 512 < (laidL (bnd s) t).length then 2 else 0) ∧ applyL sig s t = if 512 < (laidL (bnd s) t).length then [] else laidL (bnd s) t := by
  unfold applyE applyL
  rw [if_pos hb, if_pos ht, if_pos hb, if_pos ht]
  exact lay_eq (bnd s) t

theorem bnd_right {sig : List Sy} {s : List Bd} (h : bindE sig s = 0) : ∀ n u, bnd s n = some u → rowE sig u = 0 := fun n u hn => by
  obtain ⟨h0, h1⟩ := bind_parts h
  have := (bind_all sig s none h1 _ (List.mem_reverse.1 (lookup_mem hn))).2
  unfold termE at this
  rw [if_pos h0] at this
  exact this

theorem term_laid {sig : List Sy} {s : List Bd} {t : List Int} (hb : bindE sig s = 0) (ht : termE sig t = 0) : termE sig (laidL (bnd s) t) = 0 := by
  obtain ⟨h0, _⟩ := bind_parts hb
  unfold termE at ht ⊢
  rw [if_pos h0] at ht ⊢
  exact row_laid (sigE_ok h0) (bnd_right hb) ht

/-- One after the other is both at once. -/
theorem after_both {sig : List Sy} {s r : List Bd} {t : List Int} (h : applyE sig s t = 0) (hr : ∀ b ∈ s, applyE sig r b.2 = 0) :
    applyE sig r (applyL sig s t) = applyE sig (merge (fun u => applyL sig r u) s r) t ∧ applyL sig r (applyL sig s t) = applyL sig (merge (fun u => applyL sig r u) s r) t := by
  obtain ⟨hb, ht, hl, e⟩ := apply_ok h
  rw [e]
  cases s with
  | nil =>
    rw [laid_none]
    exact ⟨rfl, rfl⟩
  | cons a s =>
    obtain ⟨hbr, _, _, _⟩ := apply_ok (hr a (.head _))
    obtain ⟨h0, h1⟩ := bind_parts hb
    obtain ⟨_, h2⟩ := bind_parts hbr
    have hs := (bind_rise sig _ none h1).2
    have hrr := (bind_rise sig _ none h2).2
    obtain ⟨m1, m2, m3⟩ := merge_facts (fun u => applyL sig r u) (a :: s) r hs hrr
    have hbm : bindE sig (merge (fun u => applyL sig r u) (a :: s) r) = 0 := by
      unfold bindE
      rw [if_pos h0]
      refine bind_made sig _ none (fun b hbm => ?_) (fun y hy => by cases hy) m2
      rcases m1 b hbm with hm | ⟨c, hc, rfl⟩
      · exact bind_all sig r none h2 b hm
      · obtain ⟨k1, k2⟩ := bind_all sig _ none h1 c hc
        obtain ⟨_, _, _, k3⟩ := apply_ok (hr c hc)
        refine ⟨k1, ?_⟩
        show termE sig (applyL sig r c.2) = 0
        rw [k3]
        exact term_laid hbr k2
    have hbnd : ∀ n, bnd (merge (fun u => applyL sig r u) (a :: s) r) n = match bnd (a :: s) n with | some u => some (laidL (bnd r) u) | none => bnd r n := fun n => by
      have f1 : bnd (merge (fun u => applyL sig r u) (a :: s) r) n = _ := (look_rise m2 n).symm
      have f2 : bnd (a :: s) n = _ := (look_rise hs n).symm
      have f3 : bnd r n = _ := (look_rise hrr n).symm
      rw [f1, f2, f3, m3 n]
      cases hl : (a :: s).lookup n with
      | none => rfl
      | some u =>
        obtain ⟨_, _, _, k3⟩ := apply_ok (hr _ (lookup_mem hl))
        simp only at k3 ⊢
        rw [k3]
    have hla := laid_after (bnd (a :: s)) (bnd r) _ hbnd t
    obtain ⟨e1, e2⟩ := apply_of hbr (term_laid hb ht)
    obtain ⟨e3, e4⟩ := apply_of hbm ht
    rw [e1, e2, e3, e4, hla]
    exact ⟨rfl, rfl⟩

end Go.Proofs.YtpnkplidhbbliaaDoor
