/- Texts of the proof, one behind the other. -/
import Derived.Test.YtfeeafkfjngemaaDoorOwn4
import Derived.Test.YtfeeafkfjngemaaDoorOwn5
import Derived.Test.YtfeeafkfjngemaaDoorOwn6
import Derived.Test.YtfeeafkfjngemaaDoorOwn9
import Derived.Test.YtfeeafkfjngemaaDoorOwn8
import Derived.Test.YtfeeafkfjngemaaDoorOwn7
import Derived.Test.YtfeeafkfjngemaaDoorOwn3
/- The document's Vars walked. -/
namespace Go.Proofs.YtfeeafkfjngemaaDoor
open Go.RowKit Go.Maps Go.BigFrame

theorem mem_take_next {m : List Int} {k : Nat} {x c : Int} (h : m[k]? = some x) : decide (c ∈ m.take (k + 1)) = (decide (c ∈ m.take k) || decide (x = c)) := by
  rw [take_get h]
  by_cases h1 : c ∈ m.take k
  · simp [h1]
  · by_cases h2 : x = c
    · simp [h2]
    · have h3 : ¬ c = x := fun e => h2 e.symm
      simp [h1, h2, h3]

set_option maxRecDepth 100000 in
set_option maxHeartbeats 1600000 in
theorem refVars_any (v : Value) (t : List Int) (w : World) (h : Is w v t) (hb : t.length * 8 ≤ 140737488355328) :
    Calls Tryd.prog 32 #[v] w fun e w' => ∃ v', e = .returned v' ∧ OwI w' w.heap.size v' (varsL t) ∧ Below w.heap.size w w' := by
  obtain ⟨ao, cap, rfl, hao, hca, q0⟩ := Row.flat h
  unfold maxLen at hca
  have HT := hid h
  clear h q0
  go_enter Tryd.func32, Tryd.ntmps32
  go_wp2
  go_loopw [3, 4] (fun x iv wr => ∃ (i : Nat) (m : List Int), i ≤ t.length ∧ iv = .int .i64 i ∧ metA [] t = metA m (t.drop i) ∧ m.length ≤ i ∧ ZI m ∧ OwI wr w.heap.size x (m.map fun c => -1 - c) ∧ Below w.heap.size w wr) (fun _ iv _ => t.length - (intOf iv).toNat)
  case atStart => exact ⟨0, [], Nat.zero_le _, rfl, rfl, Nat.le_refl _, fun k x hk => (by simp at hk), nilI _ _, Below.refl _ _⟩
  case round =>
    obtain ⟨i, m, hi, rfl, hme, hml, hzm, how, hbl⟩ := hrel
    obtain ⟨bo, bc, hxv, hbc1, hbc2⟩ := how.shape
    rw [List.length_map] at hxv hbc1
    subst hxv
    unfold maxLen at hbc2
    have HMe := hid hme
    have HOw := hid how
    have HB := hid hbl
    have HZ := hid hzm
    clear hme how hzm
    by_cases hlt : i < t.length
    · obtain ⟨g, off, c, rfl, hx1, hx2, hx3, hx4⟩ := (HT.out.kp (Kp.of_below hbl)).at hlt
      have HD := hid (drop_get hx1)
      clear hx1 hbl
      go_wp2
      go_loopw [5, 6] (fun bv kv ws => ∃ (k : Nat) (B : Bool), k ≤ m.length ∧ kv = .int .i64 k ∧ bv = .bool B ∧ B = (decide (0 ≤ c) || decide (c ∈ m.take k)) ∧ ∃ n, ws = wr.drewN n) (fun _ kv _ => m.length - (intOf kv).toNat)
      case atStart => exact ⟨0, decide (0 ≤ c), Nat.zero_le _, rfl, rfl, by simp, 0, rfl⟩
      case round =>
        obtain ⟨k, B, hk, rfl, rfl, hB, n, rfl⟩ := hrel
        have HBb := hid hB
        clear hB
        by_cases hkl : k < m.length
        · obtain ⟨x, hx⟩ : ∃ x, m[k]? = some x := ⟨_, List.getElem?_eq_getElem hkl⟩
          have hxz := HZ.out k x hx
          obtain ⟨g2, off2, y, rfl, hy1, hy2, hy3, hy4⟩ := HOw.out.is.at (k := k) (by rw [List.length_map]; exact hkl)
          rw [List.getElem?_map, hx] at hy1
          simp only [Option.map_some, Option.some.injEq] at hy1
          have HN := hid (mem_take_next (c := c) hx)
          clear hx
          cases B with
          | true =>
            have HB2 : Hid (true = (decide (0 ≤ c) || decide (c ∈ m.take (k + 1)))) := by
              show _ = _
              rw [HN.out, ← Bool.or_assoc, ← HBb.out]
              rfl
            clear hy1 hy2
            go_wp2
            go_quiet (fail)
            go_wp2
            go_roundw
            case rel => exact ⟨k + 1, true, by omega, by go_num, rfl, HB2.out, _, rfl⟩
            case measure => simp [intOf]; omega
          | false =>
            have hwc : IntKind.i64.wrap (-1 - c) = -1 - c := IntWalk.i64_in _ ⟨by omega, by omega⟩
            by_cases hxc : x = c
            · have HB2 : Hid (true = (decide (0 ≤ c) || decide (c ∈ m.take (k + 1)))) := by
                show _ = _
                rw [HN.out, ← Bool.or_assoc, ← HBb.out, decide_eq_true hxc]
                rfl
              have hyc : (y == -1 - c) = true := by rw [beq_iff_eq]; omega
              clear hy1 hxc
              go_wp2
              go_quiet (fail)
              go_wp2
              go_roundw
              case rel => exact ⟨k + 1, true, by omega, by go_num, rfl, HB2.out, _, rfl⟩
              case measure => simp [intOf]; omega
            · have HB2 : Hid (false = (decide (0 ≤ c) || decide (c ∈ m.take (k + 1)))) := by
                show _ = _
                rw [HN.out, ← Bool.or_assoc, ← HBb.out, decide_eq_false hxc]
                rfl
              have hyc : (y == -1 - c) = false := by rw [beq_eq_false_iff_ne]; omega
              clear hy1 hxc
              go_wp2
              go_quiet (fail)
              go_wp2
              go_roundw
              case rel => exact ⟨k + 1, false, by omega, by go_num, rfl, HB2.out, _, rfl⟩
              case measure => simp [intOf]; omega
        · have hke : k = m.length := by omega
          have HBf : Hid (B = (decide (0 ≤ c) || decide (c ∈ m))) := by show _ = _; rw [HBb.out, hke, List.take_length]
          have HBn := hid (below_drewN HB.out n)
          have HOn := hid (HOw.out.later (below_drewN (Below.refl _ _) n))
          clear HBb
          cases B with
          | true =>
            have HN : Hid (metA [] t = metA m (t.drop (i + 1))) := by
              show _ = _
              rw [HMe.out, HD.out, metA, if_pos]
              have := HBf.out
              simp only [Bool.true_eq, Bool.or_eq_true, decide_eq_true_eq] at this
              exact this
            go_wp2
            go_roundw
            case rel => exact ⟨i + 1, m, by omega, by go_num, HN.out, by omega, HZ.out, HOn.out, HBn.out⟩
            case measure => simp [intOf]; omega
          | false =>
            have hno : ¬ (0 ≤ c ∨ c ∈ m) := by
              have := HBf.out
              intro h9
              rw [eq_comm, Bool.or_eq_false_iff, decide_eq_false_iff_not, decide_eq_false_iff_not] at this
              rcases h9 with h9 | h9
              · exact this.1 h9
              · exact this.2 h9
            have HN : Hid (metA [] t = metA (m ++ [c]) (t.drop (i + 1))) := by
              show _ = _
              rw [HMe.out, HD.out, metA, if_neg hno]
            have hwc : IntKind.i64.wrap (-1 - c) = -1 - c := IntWalk.i64_in _ ⟨by omega, by omega⟩
            obtain ⟨v6, w6, hr6, ho6, hg6, _⟩ := join_one 30 (c := -1 - c) HOn.out (by omega) (by omega) HBn.out.size (by rw [List.length_map]; omega)
            have hb6 := (below_step HBn.out (below_alloc _)).grown hg6 (below_step HBn.out (below_alloc _)).size (fun j hj => own_blk HOn.out.2 hj)
            have HR6 := hid hr6
            have HO6 : Hid (OwI w6 w.heap.size v6 ((m ++ [c]).map fun c => -1 - c)) := by
              rw [List.map_append]
              exact ho6
            have HB6 := hid hb6
            have HZ2 : Hid (ZI (m ++ [c])) := fun k y hk => by
              by_cases hkl : k < m.length
              · rw [List.getElem?_append_left hkl] at hk
                exact HZ.out k y hk
              · rw [List.getElem?_append_right (by omega)] at hk
                have : y = c := by
                  have h9 := List.mem_of_getElem? hk
                  simpa using h9
                omega
            clear hr6 ho6 hg6 hb6 hno
            go_wp2_with (first
              | (at_builtin; refine wpList_append_run rfl _ _ _ rfl _ _ rfl rfl HR6.out ?_))
            go_roundw
            case rel => exact ⟨i + 1, m ++ [c], by omega, by go_num, HN.out, by rw [List.length_append, List.length_singleton]; omega, HZ2.out, HO6.out, HB6.out⟩
            case measure => simp [intOf]; omega
    · have HF : Hid (varsL t = m.map fun c => -1 - c) := by show _ = _; unfold varsL; rw [HMe.out, List.drop_of_length_le (by omega)]; rfl
      go_wp2
      go_ret
      exact ⟨_, rfl, by rw [HF.out]; exact HOw.out, HB.out⟩

end Go.Proofs.YtfeeafkfjngemaaDoor

/- The document's Plain, has, rule, Check and Right of layer 7 walked. -/
namespace Go.Proofs.YtfeeafkfjngemaaDoor
open Go.RowKit Go.Maps Go.BigFrame

theorem suf_iff (s : ByteArray) : sufB s = true ↔ 0 < s.size ∧ lastB s = 35 := by
  have hl : s.data.toList.length = s.size := (Lib.size_eq s).symm
  constructor
  · intro h
    change Lib.hasSuffix s.data.toList [35] = true at h
    unfold Lib.hasSuffix at h
    rw [List.isSuffixOf_iff_suffix] at h
    obtain ⟨l, e⟩ := h
    have hn := congrArg List.length e
    simp only [List.length_append, List.length_cons, List.length_nil] at hn
    refine ⟨by omega, ?_⟩
    unfold lastB
    rw [← e, show s.size - 1 = l.length by omega]
    simp
  · rintro ⟨h0, h⟩
    show Lib.hasSuffix s.data.toList [35] = true
    unfold Lib.hasSuffix
    rw [List.isSuffixOf_iff_suffix]
    have hx : s.data.toList.drop (s.size - 1) = [35] := by
      unfold lastB at h
      rw [List.drop_eq_getElem_cons (by omega), List.drop_of_length_le (by omega)]
      rw [List.getD_eq_getElem?_getD, List.getElem?_eq_getElem (by omega), Option.getD_some] at h
      rw [h]
    exact ⟨s.data.toList.take (s.size - 1), by rw [← hx, List.take_append_drop]⟩

theorem mark_suf {s : ByteArray} (h : symB s = true) : markB s = sufB s := by
  rw [Bool.eq_iff_iff]
  constructor
  · intro hm
    unfold markB at hm
    rw [Bool.and_eq_true, Bool.and_eq_true, decide_eq_true_eq, decide_eq_true_eq] at hm
    exact (suf_iff s).2 ⟨hm.1, hm.2.1⟩
  · intro hs
    obtain ⟨h0, h1⟩ := (suf_iff s).1 hs
    unfold symB at h
    rw [bare_hash s h0 h1] at h
    unfold markB
    rw [decide_eq_true h0, decide_eq_true h1, h]
    rfl

theorem sigGo_names (sig : List Sy) : ∀ (r : List Sy) (k : Nat), sigGo sig k r = 0 → ∀ s ∈ r, symB s.1 = true
  | [], _, _, s, hs => by simp at hs
  | a :: r, k, h, s, hs => by
    unfold sigGo at h
    cases ha : symB a.1 with
    | false => rw [ha] at h; simp at h
    | true =>
      rw [ha, if_pos rfl] at h
      split at h
      · omega
      · split at h
        · omega
        · rcases List.mem_cons.1 hs with rfl | hs
          · exact ha
          · exact sigGo_names sig r (k + 1) h s hs

theorem sig_marks {sig : List Sy} (h : sigE sig = 0) : (sig.any fun s => markB s.1) = (sig.any fun s => sufB s.1) := by
  unfold sigE at h
  split at h
  · omega
  · have hn := sigGo_names sig sig 0 h
    rw [Bool.eq_iff_iff, List.any_eq_true, List.any_eq_true]
    constructor
    · rintro ⟨s, hs, hm⟩
      exact ⟨s, hs, by rw [← mark_suf (hn s hs)]; exact hm⟩
    · rintro ⟨s, hs, hm⟩
      exact ⟨s, hs, by rw [mark_suf (hn s hs)]; exact hm⟩

def plainE (sig : List Sy) : Int := if sigE sig = 0 then (if 64 < sig.length then 37 else if (sig.any fun s => sufB s.1) then 34 else 0) else sigE sig

set_option maxRecDepth 100000 in
set_option maxHeartbeats 800000 in
theorem refPlain_any (sv : Value) (sig : List Sy) (w : World) (hs : Sg w sv sig) :
    Calls Tryd.prog 17 #[sv] w fun e w' => e = .returned (.int .i64 (plainE sig)) ∧ Below w.heap.size w w' := by
  obtain ⟨so, sc, rfl, hso, hsc, _⟩ := Row.flat hs
  unfold maxLen at hsc
  have HS := hid hs
  clear hs
  go_enter Tryd.func17, Tryd.ntmps17
  go_wp2_with fail
  refine (refCheckSig_any _ sig w HS.out).mono ?_
  rintro e w1 ⟨rfl, hb1⟩
  have C1 := hid hb1
  clear hb1
  by_cases he : sigE sig = 0
  · rw [he]
    have HMk := hid (sig_marks he)
    by_cases h64 : 64 < sig.length
    · have HF : Hid (plainE sig = 37) := by show _ = _; unfold plainE; rw [if_pos he, if_pos h64]
      have hd : decide ((64 : Int) < (sig.length : Int)) = true := by simpa using (show (64 : Int) < (sig.length : Int) by omega)
      clear he
      go_wp2
      go_ret
      exact ⟨ret1i HF.out.symm, C1.out⟩
    · have HF : Hid (plainE sig = if (sig.any fun s => markB s.1) then 34 else 0) := by show _ = _; unfold plainE; rw [if_pos he, if_neg h64, HMk.out]
      have hd : decide ((64 : Int) < (sig.length : Int)) = false := by simpa using (show ¬ (64 : Int) < (sig.length : Int) by omega)
      clear he
      go_wp2
      go_loopw [4] (fun iv wr => ∃ k : Nat, k ≤ sig.length ∧ iv = .int .i64 k ∧ (sig.take k).any (fun s => markB s.1) = false ∧ Below w.heap.size w wr) (fun iv _ => sig.length - (intOf iv).toNat)
      case atStart => exact ⟨0, Nat.zero_le _, rfl, by simp, C1.out⟩
      case round =>
        obtain ⟨k, hk, rfl, hno, hbl⟩ := hrel
        have HNo := hid hno
        have HB := hid hbl
        clear hno
        by_cases hlt : k < sig.length
        · obtain ⟨g, off, s, a, rfl, hm, hc0, hc1, ha1, ha2, hs3⟩ := (HS.out.kp (Kp.of_below hbl)).at hlt
          have HM := hid hm
          clear hm hbl
          go_wp2_with fail
          refine (refMarked_any s wr hs3).mono ?_
          rintro e w2 ⟨rfl, hb2⟩
          have HB2 := hid (below_step HB.out hb2)
          clear hb2 hc0 hc1
          cases hmk : markB s with
          | true =>
            have HF2 : Hid (plainE sig = 34) := by
              show _ = _
              rw [HF.out, if_pos (List.any_eq_true.2 ⟨_, List.mem_of_getElem? HM.out, hmk⟩)]
            clear hmk
            go_wp2
            go_ret
            exact ⟨ret1i HF2.out.symm, HB2.out⟩
          | false =>
            have HF2 : Hid ((sig.take (k + 1)).any (fun s => markB s.1) = false) := by
              show _ = _
              rw [take_get HM.out, List.any_append, HNo.out]
              simp [hmk]
            clear hmk
            go_wp2
            go_roundw
            case rel => exact ⟨k + 1, by omega, by go_num, HF2.out, HB2.out⟩
            case measure => simp only [intOf]; omega
        · have HF2 : Hid (plainE sig = 0) := by
            have h9 := HNo.out
            rw [List.take_of_length_le (by omega)] at h9
            show _ = _
            rw [HF.out, h9]
            rfl
          go_wp2
          go_ret
          exact ⟨ret1i HF2.out.symm, HB.out⟩
  · have HF : Hid (plainE sig = sigE sig) := by show _ = _; unfold plainE; rw [if_neg he]
    generalize sigE sig = E at he HF ⊢
    have hne : (E != 0) = true := by simpa using he
    go_wp2
    go_ret
    exact ⟨ret1i HF.out.symm, C1.out⟩

set_option maxRecDepth 100000 in
set_option maxHeartbeats 400000 in
theorem refHas_any (v : Value) (xs : List Int) (n : Int) (w : World) (h : Is w v xs) :
    Calls Tryd.prog 33 #[v, .int .i64 n] w fun e w' => e = .returned (.bool (decide (n ∈ xs))) ∧ w' = w := by
  obtain ⟨ao, cap, rfl, hao, hca, _⟩ := Row.flat h
  unfold maxLen at hca
  have HV := hid h
  clear h
  go_enter Tryd.func33, Tryd.ntmps33
  go_wp2
  go_loopw [5] (fun iv wr => ∃ k : Nat, k ≤ xs.length ∧ iv = .int .i64 k ∧ n ∉ xs.take k ∧ wr = w) (fun iv _ => xs.length - (intOf iv).toNat)
  case atStart => exact ⟨0, Nat.zero_le _, rfl, by simp, rfl⟩
  case round =>
    obtain ⟨k, hk, rfl, hno, hw⟩ := hrel
    have hw8 := hw.symm
    subst hw8
    have HNo := hid hno
    clear hw hno
    by_cases hlt : k < xs.length
    · obtain ⟨g, off, x, rfl, hx1, hx2, _, _⟩ := HV.out.at hlt
      have HX := hid hx1
      clear hx1
      by_cases hxn : x = n
      · have hb : (x == n) = true := by rw [beq_iff_eq]; exact hxn
        have HF : Hid (decide (n ∈ xs) = true) := by
          show _ = _
          rw [decide_eq_true_eq, ← hxn]
          exact List.mem_of_getElem? HX.out
        clear hxn
        go_wp2
        go_ret
        exact ⟨ret1b HF.out.symm, rfl⟩
      · have hb : (x == n) = false := by rw [beq_eq_false_iff_ne]; exact hxn
        have HF : Hid (n ∉ xs.take (k + 1)) := by
          rw [take_get HX.out]
          intro h9
          rcases List.mem_append.1 h9 with h9 | h9
          · exact HNo.out h9
          · simp at h9
            exact hxn h9.symm
        clear hxn
        go_wp2
        go_roundw
        case rel => exact ⟨k + 1, by omega, by go_num, HF.out, trivial⟩
        case measure => simp only [intOf]; omega
    · have HF : Hid (decide (n ∈ xs) = false) := by
        have h9 := HNo.out
        rw [List.take_of_length_le (by omega)] at h9
        show _ = _
        rw [decide_eq_false_iff_not]
        exact h9
      go_wp2
      go_ret
      exact ⟨ret1b HF.out.symm, rfl⟩

set_option maxRecDepth 100000 in
set_option maxHeartbeats 1600000 in
theorem refRule_any (sv lv rv : Value) (sig : List Sy) (l r : List Int) (w : World) (hs : Sg w sv sig) (hl : Is w lv l) (hr : Is w rv r) (hse : sigE sig = 0) (h1 : l.length * 8 ≤ 140737488351232) (h2 : r.length * 8 ≤ 140737488351232) :
    Calls Tryd.prog 18 #[sv, .agg #[lv, rv]] w fun e w' => e = .returned (.int .i64 (ruleE sig (l, r))) ∧ Below w.heap.size w w' := by
  obtain ⟨a1, c1, e1, _⟩ := hl.flatI
  subst e1
  obtain ⟨a2, c2, e2, _⟩ := hr.flatI
  subst e2
  have HS := hid hs
  have HL := hid hl
  have HR := hid hr
  have HA := hid (sigE_ok hse)
  have HTl : Hid (termE sig l = rowE sig l) := by show _ = _; unfold termE; rw [if_pos hse]
  have HTr : Hid (termE sig r = rowE sig r) := by show _ = _; unfold termE; rw [if_pos hse]
  clear hs hl hr hse
  obtain ⟨w0, hw0⟩ : ∃ X, X = w.alloc (.cells #[.slice a1 l.length c1, .slice a2 r.length c2] 37) := ⟨_, rfl⟩
  have C0 : Hid (Below w.heap.size w w0) := by rw [hw0]; exact below_alloc _
  have HC : Hid (∀ W, Below w0.heap.size w0 W → W.cell? ⟨w.heap.size, 0, none⟩ = some (.slice a1 l.length c1) ∧ W.cell? ⟨w.heap.size, 1, none⟩ = some (.slice a2 r.length c2)) := fun W hW => by
    have hk := Kp.of_below hW
    rw [hw0] at hk
    exact ⟨hk.cell _ _ (cell_new rfl), hk.cell _ _ (cell_new rfl)⟩
  obtain ⟨E, hE⟩ : ∃ E, E = ruleE sig (l, r) := ⟨_, rfl⟩
  have HE := hid hE
  rw [← hE]
  clear hE
  unfold ruleE at HE
  simp only [HTl.out, HTr.out] at HE
  go_enter Tryd.func18, Tryd.ntmps18
  go_wp2_with fail
  rw [← hw0]
  clear hw0
  refine (refTerm_any sv _ sig l w0 (HS.out.kp (Kp.of_below C0.out)) (HL.out.kp (Kp.of_below C0.out)) HA.out h1).mono ?_
  rintro e w1 ⟨rfl, hw1⟩
  have hw8 := hw1.symm
  subst hw8
  clear hw1
  obtain ⟨x0, x1⟩ := HC.out w0 (Below.refl _ _)
  by_cases hel : rowE sig l = 0
  · rw [hel]
    have HEl := hid hel
    rw [if_pos hel] at HE
    clear hel
    go_wp2_with fail
    refine (refTerm_any sv _ sig r w0 (HS.out.kp (Kp.of_below C0.out)) (HR.out.kp (Kp.of_below C0.out)) HA.out h2).mono ?_
    rintro e w1 ⟨rfl, hw1⟩
    have hw8 := hw1.symm
    subst hw8
    clear hw1
    by_cases her : rowE sig r = 0
    · rw [her]
      rw [if_pos her] at HE
      clear her
      have hlp := row_posS HEl.out
      obtain ⟨gl, ol, c, rfl, hc, hcx, _, _⟩ := (HL.out.kp (Kp.of_below C0.out)).at hlp
      rw [hc] at HE
      simp only [Option.getD_some] at HE
      rw [Nat.add_zero] at hcx
      clear hc
      by_cases hb1 : 512 < l.length
      · have hd1 : decide ((512 : Int) < (l.length : Int)) = true := by simpa using (show (512 : Int) < (l.length : Int) by omega)
        rw [if_pos (.inl hb1)] at HE
        go_wp2
        go_ret
        exact ⟨ret1i HE.out.symm, C0.out⟩
      · have hd1 : decide ((512 : Int) < (l.length : Int)) = false := by simpa using (show ¬ (512 : Int) < (l.length : Int) by omega)
        by_cases hb2 : 512 < r.length
        · have hd2 : decide ((512 : Int) < (r.length : Int)) = true := by simpa using (show (512 : Int) < (r.length : Int) by omega)
          rw [if_pos (.inr hb2)] at HE
          go_wp2
          go_ret
          exact ⟨ret1i HE.out.symm, C0.out⟩
        · have hd2 : decide ((512 : Int) < (r.length : Int)) = false := by simpa using (show ¬ (512 : Int) < (r.length : Int) by omega)
          rw [if_neg (by omega)] at HE
          by_cases h0 : c < 0
          · rw [if_pos h0] at HE
            have hd0 : decide (c < 0) = true := by simpa using h0
            go_wp2
            go_ret
            exact ⟨ret1i HE.out.symm, C0.out⟩
          · rw [if_neg h0] at HE
            have hd0 : decide (c < 0) = false := by simpa using h0
            go_wp2_with fail
            refine (refVars_any _ l w0 (HL.out.kp (Kp.of_below C0.out)) (by omega)).mono ?_
            rintro e w2 ⟨v2, rfl, ho2, hb2⟩
            have C2 := hid (below_step C0.out hb2)
            obtain ⟨y0, y1⟩ := HC.out w2 hb2
            have D2 := hid hb2
            have HV2 := hid ho2.is
            clear hb2 ho2 x0 x1 hcx
            go_wp2_with fail
            refine (refVars_any _ r w2 (HR.out.kp (Kp.of_below C2.out)) (by omega)).mono ?_
            rintro e w3 ⟨v3, rfl, ho3, hb3⟩
            have C3 := hid (below_step C2.out hb3)
            have HV23 := hid (HV2.out.kp (Kp.of_below hb3))
            have HV3 := hid ho3.is
            clear hb3 ho3 y0 y1 HV2
            unfold freeB at HE
            generalize varsL l = VL at HV23 HE
            generalize varsL r = VR at HV3 HE
            obtain ⟨ro, rc, hv3, hrc1, hrc2, _⟩ := HV3.out.flatI
            subst hv3
            go_wp2
            go_loopw [8] (fun iv wr => ∃ k : Nat, k ≤ VR.length ∧ iv = .int .i64 k ∧ (VR.take k).any (fun x => !decide (x ∈ VL)) = false ∧ wr = w3) (fun iv _ => VR.length - (intOf iv).toNat)
            case atStart => exact ⟨0, Nat.zero_le _, rfl, by simp, rfl⟩
            case round =>
              obtain ⟨k, hk, rfl, hno, hw⟩ := hrel
              have hw8 := hw.symm
              subst hw8
              have HNo := hid hno
              clear hw hno
              by_cases hlt : k < VR.length
              · obtain ⟨g, off, x, rfl, hx1, hx2, _, _⟩ := HV3.out.at hlt
                have HX := hid hx1
                clear hx1
                go_wp2_with fail
                refine (refHas_any _ VL x w3 HV23.out).mono ?_
                rintro e w4 ⟨rfl, hw4⟩
                have hw8 := hw4.symm
                subst hw8
                clear hw4
                by_cases hin : x ∈ VL
                · rw [decide_eq_true hin]
                  have HF : Hid ((VR.take (k + 1)).any (fun x => !decide (x ∈ VL)) = false) := by
                    show _ = _
                    rw [take_get HX.out, List.any_append, HNo.out]
                    simp [hin]
                  clear hin
                  go_wp2
                  go_roundw
                  case rel => exact ⟨k + 1, by omega, by go_num, HF.out, trivial⟩
                  case measure => simp only [intOf]; omega
                · rw [decide_eq_false hin]
                  have HF : Hid (E = 72) := by
                    show _ = _
                    rw [HE.out, if_pos (List.any_eq_true.2 ⟨x, List.mem_of_getElem? HX.out, by simpa using hin⟩)]
                  clear hin
                  go_wp2
                  go_ret
                  exact ⟨ret1i HF.out.symm, C3.out⟩
              · have HF : Hid (E = 0) := by
                  have h9 := HNo.out
                  rw [List.take_of_length_le (by omega)] at h9
                  show _ = _
                  rw [HE.out, h9]
                  rfl
                go_wp2
                go_ret
                exact ⟨ret1i HF.out.symm, C3.out⟩
    · rw [if_neg her] at HE
      generalize rowE sig r = T at her HE ⊢
      have hne : (T != 0) = true := by simpa using her
      go_wp2
      go_ret
      exact ⟨ret1i HE.out.symm, C0.out⟩
  · rw [if_neg hel] at HE
    generalize rowE sig l = T at hel HE ⊢
    have hne : (T != 0) = true := by simpa using hel
    go_wp2
    go_ret
    exact ⟨ret1i HE.out.symm, C0.out⟩

end Go.Proofs.YtfeeafkfjngemaaDoor

/- The document's Check and Right of layer 7 walked. -/
namespace Go.Proofs.YtfeeafkfjngemaaDoor
open Go.RowKit Go.Maps Go.BigFrame

theorem ahead_plain {sig : List Sy} {n : Nat} : aheadE sig n = if plainE sig = 0 then (if 64 < n then 70 else 0) else plainE sig := by
  unfold aheadE plainE
  by_cases h1 : sigE sig = 0
  · rw [if_pos h1, if_pos h1]
    by_cases h2 : 64 < sig.length
    · rw [if_pos h2, if_pos h2, if_neg (by decide)]
    · rw [if_neg h2, if_neg h2]
      cases h3 : (sig.any fun s => sufB s.1) with
      | true => simp
      | false => simp
  · rw [if_neg h1, if_neg h1, if_neg h1]

theorem plain_sig {sig : List Sy} (h : plainE sig = 0) : sigE sig = 0 := by
  unfold plainE at h
  by_cases h1 : sigE sig = 0
  · exact h1
  · rw [if_neg h1] at h
    exact h

set_option maxRecDepth 100000 in
set_option maxHeartbeats 1600000 in
theorem refSysCheck_any (sv rv : Value) (sig : List Sy) (rs : List Rl) (w : World) (hs : Sg w sv sig) (hr : RU w rv rs) :
    Calls Tryd.prog 7 #[.agg #[sv, rv]] w fun e w' => e = .returned (.tuple #[.int .i64 (sysE sig rs).1, .int .i64 (sysE sig rs).2]) ∧ Below w.heap.size w w' := by
  obtain ⟨so, sc, rfl, hso, hsc, _⟩ := Row.flat hs
  obtain ⟨ro, rc, rfl, hro, hrc, _⟩ := Row.flat hr
  unfold maxLen at hsc hrc
  have HS := hid hs
  have HR := hid hr
  clear hs hr
  obtain ⟨w0, hw0⟩ : ∃ X, X = w.alloc (.cells #[.slice so sig.length sc, .slice ro rs.length rc] 25) := ⟨_, rfl⟩
  have C0 : Hid (Below w.heap.size w w0) := by rw [hw0]; exact below_alloc _
  have HC : Hid (∀ W, Below w0.heap.size w0 W → W.cell? ⟨w.heap.size, 0, none⟩ = some (.slice so sig.length sc) ∧ W.cell? ⟨w.heap.size, 1, none⟩ = some (.slice ro rs.length rc)) := fun W hW => by
    have hk := Kp.of_below hW
    rw [hw0] at hk
    exact ⟨hk.cell _ _ (cell_new rfl), hk.cell _ _ (cell_new rfl)⟩
  obtain ⟨E, hE⟩ : ∃ E, E = sysE sig rs := ⟨_, rfl⟩
  have HE := hid hE
  rw [← hE]
  clear hE
  unfold sysE at HE
  rw [ahead_plain] at HE
  obtain ⟨x0, x1⟩ := HC.out w0 (Below.refl _ _)
  go_enter Tryd.func7, Tryd.ntmps7
  go_wp2_with fail
  rw [← hw0]
  clear hw0
  refine (refPlain_any _ sig w0 (HS.out.kp (Kp.of_below C0.out))).mono ?_
  rintro e w1 ⟨rfl, hb1⟩
  have C1 := hid (below_step C0.out hb1)
  have D1 := hid hb1
  clear hb1 x0 x1
  by_cases hea : plainE sig = 0
  · rw [hea]
    rw [if_pos hea] at HE
    have HSe := hid (plain_sig hea)
    clear hea
    obtain ⟨x0, x1⟩ := HC.out w1 D1.out
    by_cases h64 : 64 < rs.length
    · have hd : decide ((64 : Int) < (rs.length : Int)) = true := by simpa using (show (64 : Int) < (rs.length : Int) by omega)
      rw [if_pos h64, if_neg (by decide)] at HE
      go_wp2
      go_ret2
      exact ⟨ret2ii (a := 70) (c := -1) (by rw [HE.out]), C1.out⟩
    · have hd : decide ((64 : Int) < (rs.length : Int)) = false := by simpa using (show ¬ (64 : Int) < (rs.length : Int) by omega)
      rw [if_neg h64, if_pos rfl] at HE
      go_wp2
      go_loopw [5] (fun iv wr => ∃ k : Nat, k ≤ rs.length ∧ iv = .int .i64 k ∧ rulesGo sig 0 rs = rulesGo sig k (rs.drop k) ∧ Below w0.heap.size w0 wr) (fun iv _ => rs.length - (intOf iv).toNat)
      case atStart => exact ⟨0, Nat.zero_le _, rfl, rfl, D1.out⟩
      case round =>
        obtain ⟨k, hk, rfl, hgo, hbl⟩ := hrel
        have HG := hid hgo
        have HB := hid hbl
        have CB := hid (below_step C0.out hbl)
        obtain ⟨z0, z1⟩ := HC.out wr hbl
        clear hgo hbl x0 x1
        by_cases hlt : k < rs.length
        · obtain ⟨g, off, l, r, a1, c1, a2, c2, rfl, hm, hc0, hc1, hi1, hi2, hl1, hl2⟩ := (HR.out.kp (Kp.of_below CB.out)).at hlt
          have HD : Hid (E = if ruleE sig (l, r) = 0 then rulesGo sig (k + 1) (rs.drop (k + 1)) else (ruleE sig (l, r), (k : Int))) := by
            show _ = _
            rw [HE.out, HG.out, drop_get hm]
            rfl
          have HCl : Hid (∀ W, Below wr.heap.size wr W → Calls Tryd.prog 18 #[.slice so sig.length sc, .agg #[.slice a1 l.length c1, .slice a2 r.length c2]] W fun e w' => e = .returned (.int .i64 (ruleE sig (l, r))) ∧ Below W.heap.size W w') := fun W hW =>
            refRule_any _ _ _ sig l r W (HS.out.kp (Kp.of_below (below_step CB.out hW))) (hi1.kp (Kp.of_below hW)) (hi2.kp (Kp.of_below hW)) HSe.out hl1 hl2
          obtain ⟨R, hR⟩ : ∃ R, R = ruleE sig (l, r) := ⟨_, rfl⟩
          rw [← hR] at HD HCl
          clear hR hm hi1 hi2
          go_wp2_with fail
          refine region_below (by kernel_rfl) (by kernel_rfl) ?_
          go_big_quiet_want
          refine ⟨.pointer (some ⟨w.heap.size, 0, none⟩), fun w' hw' => ?_, ?_⟩
          · unfold Oper.quietAt; go_simp
          simp only [Act.put, List.setIfInBounds_toArray, List.set_cons_zero, List.set_cons_succ]
          go_big_quiet_on
          go_big_quiet_want
          refine ⟨.slice so sig.length sc, fun w' hw' => ?_, ?_⟩
          · have hh0 := (Kp.of_below hw').cell _ _ z0; unfold Oper.quietAt; go_simp
          simp only [Act.put, List.setIfInBounds_toArray, List.set_cons_zero, List.set_cons_succ]
          go_big_quiet_on
          go_big_quiet_want
          refine ⟨.pointer (some ⟨w.heap.size, 1, none⟩), fun w' hw' => ?_, ?_⟩
          · unfold Oper.quietAt; go_simp
          simp only [Act.put, List.setIfInBounds_toArray, List.set_cons_zero, List.set_cons_succ]
          go_big_quiet_on
          go_big_quiet_want
          refine ⟨.slice (some ⟨g, off, none⟩) rs.length rc, fun w' hw' => ?_, ?_⟩
          · have hh0 := (Kp.of_below hw').cell _ _ z1; unfold Oper.quietAt; go_simp
          simp only [Act.put, List.setIfInBounds_toArray, List.set_cons_zero, List.set_cons_succ]
          go_big_quiet_on
          (go_big_quiet_want; go_big_quiet_op; go_big_quiet_on)
          go_big_quiet_want
          refine ⟨.pointer (some ⟨g, off + k * 2, none⟩), fun w' hw' => ?_, ?_⟩
          · unfold Oper.quietAt; go_simp
          simp only [Act.put, List.setIfInBounds_toArray, List.set_cons_zero, List.set_cons_succ]
          go_big_quiet_on
          go_big_quiet_want
          refine ⟨.agg #[.slice a1 l.length c1, .slice a2 r.length c2], fun w' hw' => ?_, ?_⟩
          · have hh0 := (Kp.of_below hw').cell _ _ hc0; have hh1 := (Kp.of_below hw').cell _ _ hc1; unfold Oper.quietAt; go_simp
          simp only [Act.put, List.setIfInBounds_toArray, List.set_cons_zero, List.set_cons_succ]
          go_big_quiet_on
          go_big_quiet_want
          refine ⟨.int .i64 R, fun w' hw' => ?_, ?_⟩
          · unfold Oper.quietAt; go_simp; exact (HCl.out w' hw').mono (fun e w2 ⟨he, hb⟩ => ⟨he, below_step hw' hb⟩)
          simp only [Act.put, List.setIfInBounds_toArray, List.set_cons_zero, List.set_cons_succ]
          go_big_quiet_on
          (go_big_quiet_want; go_big_quiet_op; go_big_quiet_on)
          refine wpQuiet_nil ?_
          intro w3 hb3
          have HB3 := hid (below_step HB.out hb3)
          clear hb3 z0 z1 hc0 hc1 HCl
          by_cases her : R = 0
          · have HN : Hid (rulesGo sig 0 rs = rulesGo sig (k + 1) (rs.drop (k + 1))) := by
              show _ = _
              rw [← HE.out, HD.out, if_pos her]
            rw [her]
            clear her HD
            go_wp2
            go_roundw
            case rel => exact ⟨k + 1, hlt, by go_num, HN.out, HB3.out⟩
            case measure => simp only [intOf]; omega
          · have HN : Hid (E = (R, (k : Int))) := by
              show _ = _
              rw [HD.out, if_neg her]
            have hne : (R != 0) = true := by simpa using her
            clear HD her
            go_wp2
            go_ret2
            exact ⟨ret2ii (a := R) (c := (k : Int)) (by rw [HN.out]), below_step C0.out HB3.out⟩
        · have HN : Hid (E = (0, 0)) := by
            show _ = _
            rw [HE.out, HG.out, List.drop_of_length_le (by omega)]
            rfl
          go_wp2
          go_ret2
          exact ⟨ret2ii (a := 0) (c := 0) (by rw [HN.out]), CB.out⟩
  · rw [if_neg hea, if_neg hea] at HE
    generalize plainE sig = P at hea HE ⊢
    have hne : (P != 0) = true := by simpa using hea
    go_wp2
    go_ret2
    exact ⟨ret2ii (a := P) (c := -1) (by rw [HE.out]), C1.out⟩

set_option maxRecDepth 100000 in
theorem refRight_any (sv rv : Value) (sig : List Sy) (rs : List Rl) (w : World) (hs : Sg w sv sig) (hr : RU w rv rs) :
    Calls Tryd.prog 11 #[.agg #[sv, rv]] w fun e w' => e = .returned (.bool (sysB sig rs)) ∧ Below w.heap.size w w' := by
  obtain ⟨so, sc, rfl, hso, hsc, _⟩ := Row.flat hs
  obtain ⟨ro, rc, rfl, hro, hrc, _⟩ := Row.flat hr
  have HS := hid hs
  have HR := hid hr
  clear hs hr
  obtain ⟨w0, hw0⟩ : ∃ X, X = w.alloc (.cells #[.slice so sig.length sc, .slice ro rs.length rc] 25) := ⟨_, rfl⟩
  have C0 : Hid (Below w.heap.size w w0) := by rw [hw0]; exact below_alloc _
  go_enter Tryd.func11, Tryd.ntmps11
  go_wp2_with fail
  rw [← hw0]
  clear hw0
  refine (refSysCheck_any _ _ sig rs w0 (HS.out.kp (Kp.of_below C0.out)) (HR.out.kp (Kp.of_below C0.out))).mono ?_
  rintro e w1 ⟨rfl, hb1⟩
  have C1 := hid (below_step C0.out hb1)
  clear hb1
  obtain ⟨E, hE⟩ : ∃ E, E = sysE sig rs := ⟨_, rfl⟩
  have HB : Hid (sysB sig rs = decide (E.1 = 0)) := by rw [hE]; rfl
  rw [← hE]
  clear hE
  by_cases h0 : E.1 = 0
  · have hb : (E.1 == 0) = true := by rw [beq_iff_eq]; exact h0
    have HB2 : Hid (sysB sig rs = true) := by show _ = _; rw [HB.out, decide_eq_true h0]
    clear h0 HB
    go_wp2
    go_ret
    exact ⟨ret1b HB2.out.symm, C1.out⟩
  · have hb : (E.1 == 0) = false := by rw [beq_eq_false_iff_ne]; exact h0
    have HB2 : Hid (sysB sig rs = false) := by show _ = _; rw [HB.out, decide_eq_false h0]
    clear h0 HB
    go_wp2
    go_ret
    exact ⟨ret1b HB2.out.symm, C1.out⟩

end Go.Proofs.YtfeeafkfjngemaaDoor

/- What the statements of layer 5 call of their own. -/
namespace Go.Proofs.YtfeeafkfjngemaaDoor
open Go.RowKit Go.Maps Go.BigFrame

end Go.Proofs.YtfeeafkfjngemaaDoor

/- What makes a pattern a term is one. -/
namespace Go.Proofs.YtfeeafkfjngemaaDoor
open Go.RowKit Go.Maps

theorem laid_unique {sig : List Sy} {f g : Int → Option (List Int)} (hf : Rt sig f) (hg : Rt sig g) : ∀ p : List Int, (∀ c ∈ p, c < 0 → f (-1 - c) ≠ none) → (∀ c ∈ p, c < 0 → g (-1 - c) ≠ none) → laidL f p = laidL g p → ∀ c ∈ p, c < 0 → f (-1 - c) = g (-1 - c)
  | [], _, _, _, c, hc, _ => by simp at hc
  | d :: p, h1, h2, h, c, hc, h0 => by
    rw [laidL_cons, laidL_cons] at h
    by_cases hd : d < 0
    · obtain ⟨u, hu⟩ := Option.ne_none_iff_exists'.1 (h1 d (by simp) hd)
      obtain ⟨v, hv⟩ := Option.ne_none_iff_exists'.1 (h2 d (by simp) hd)
      have e1 : piece f d = u := by unfold piece; rw [if_pos hd, hu]; rfl
      have e2 : piece g d = v := by unfold piece; rw [if_pos hd, hv]; rfl
      rw [e1, e2] at h
      have k1 := first_right (hf _ _ hu) (laidL f p)
      rw [h, first_right (hg _ _ hv)] at k1
      have k2 : u.length = v.length := by
        have := congrArg Prod.fst k1
        simp only at this
        omega
      obtain ⟨k3, k4⟩ := List.append_inj h k2
      rcases List.mem_cons.1 hc with rfl | hc
      · rw [hu, hv, k3]
      · exact laid_unique hf hg p (fun x hx => h1 x (by simp [hx])) (fun x hx => h2 x (by simp [hx])) k4 c hc h0
    · have e1 : piece f d = [d] := by unfold piece; rw [if_neg hd]
      have e2 : piece g d = [d] := by unfold piece; rw [if_neg hd]
      rw [e1, e2] at h
      have k4 : laidL f p = laidL g p := by simpa using h
      rcases List.mem_cons.1 hc with rfl | hc
      · exact absurd h0 hd
      · exact laid_unique hf hg p (fun x hx => h1 x (by simp [hx])) (fun x hx => h2 x (by simp [hx])) k4 c hc h0

theorem sm_unique {sig : List Sy} {f g : Int → Option (List Int)} {p t : List Int} (hf : Rt sig f) (hg : Rt sig g) (h1 : Sm f p t) (h2 : Sm g p t) : ∀ c ∈ p, c < 0 → f (-1 - c) = g (-1 - c) := laid_unique hf hg p h1.1 h2.1 (by rw [h1.2, h2.2])

theorem binds_unique {sig : List Sy} {f g : Int → Option (List Int)} {p t : List Int} (hf : Rt sig f) (hg : Rt sig g) (h1 : Sm f p t) (h2 : Sm g p t) : bindsL f p = bindsL g p := by
  unfold bindsL
  refine List.map_congr_left fun n hn => ?_
  obtain ⟨c, hc, h0, rfl⟩ := mem_varsL.1 ((sortI_mem _ _).1 hn)
  rw [sm_unique hf hg h1 h2 c hc h0]

end Go.Proofs.YtfeeafkfjngemaaDoor

/- The examples of layer 5 come out true. -/
namespace Go.Proofs.YtfeeafkfjngemaaDoor
open Go.RowKit Go.Maps Go.BigFrame

theorem small_ints5 (xs : List Int) (h : (xs.all fun x => decide (-100 ≤ x ∧ x ≤ 100)) = true) : ∀ x ∈ xs, -9223372036854775808 ≤ x ∧ x ≤ 9223372036854775807 := fun x hx => by
  have := List.all_eq_true.1 h x hx
  simp at this
  omega

theorem sh5_p : termE sumS [2, -1, -2] = 0 := by kernel_rfl
theorem sh5_t : termE sumS [2, 1, 0, 0] = 0 := by kernel_rfl
theorem sh5_q : termE sumS [2, -1, -1] = 0 := by kernel_rfl
theorem sh5_u : termE sumS [2, 0, 1, 0] = 0 := by kernel_rfl
theorem sh5_a : (termsB sumS [[2, -1, -2], [-1], [2, -7, -3], [-7]] && decide (canL [[2, -1, -2], [-1]] = canL [[2, -7, -3], [-7]])) = true := by kernel_rfl
theorem sh5_b : (termsB sumS [[2, -1, -2], [-1], [2, -7, -3], [-3]] && decide (canL [[2, -1, -2], [-1]] = canL [[2, -7, -3], [-3]])) = false := by kernel_rfl

/-- The example's binds. -/
def shF (n : Int) : Option (List Int) := if n = 0 then some [1, 0] else if n = 1 then some [0] else none

theorem shF_rt : Rt sumS shF := fun n u hu => by
  unfold shF at hu
  split at hu
  · cases hu; kernel_rfl
  · split at hu
    · cases hu; kernel_rfl
    · cases hu

theorem shF_sm : Sm shF [2, -1, -2] [2, 1, 0, 0] := ⟨fun c hc h0 => by
  simp at hc
  rcases hc with rfl | rfl | rfl
  · omega
  · decide
  · decide, by decide⟩

theorem shF_vars : varsL [2, -1, -2] = [0, 1] := by kernel_rfl

theorem shF_sort : sortI [0, 1] = [0, 1] := by
  unfold sortI
  first
    | exact List.mergeSort_of_pairwise (by simp)
    | exact List.mergeSort_of_sorted (by simp)

theorem shF_binds : bindsL shF [2, -1, -2] = [(0, [1, 0]), (1, [0])] := by
  unfold bindsL
  rw [shF_vars, shF_sort]
  rfl

theorem sh_no (f : Int → Option (List Int)) (_hf : Rt sumS f) : ¬ Sm f [2, -1, -1] [2, 0, 1, 0] := fun h => by
  have h1 := h.2
  rw [laidL_cons, laidL_cons, laidL_cons] at h1
  have e1 : piece f 2 = [2] := by unfold piece; rw [if_neg (by omega)]
  have h2 := congrArg List.length h1
  rw [e1] at h2
  simp [laidL] at h2
  omega

set_option maxRecDepth 100000 in
theorem call_v1 (w : World) (sv : Value) (hs : Sg w sv sumS) (hT : Tabs w) : Calls Tryd.prog 40 #[sv, .agg #[.slice (some ⟨w.heap.size, 0, none⟩) 3 3, .slice (some ⟨w.heap.size + 1, 0, none⟩) 1 1], .agg #[.slice (some ⟨w.heap.size + 1 + 1, 0, none⟩) 3 3, .slice (some ⟨w.heap.size + 1 + 1 + 1, 0, none⟩) 1 1]] ((((w.alloc (Obj.cells #[Value.int IntKind.i64 2, Value.int IntKind.i64 (-1), Value.int IntKind.i64 (-2)] 3)).alloc (Obj.cells #[Value.int IntKind.i64 (-1)] 3)).alloc (Obj.cells #[Value.int IntKind.i64 2, Value.int IntKind.i64 (-7), Value.int IntKind.i64 (-3)] 3)).alloc (Obj.cells #[Value.int IntKind.i64 (-7)] 3))
    fun e w' => e = .returned (.bool true) ∧ Below w.heap.size w w' := by
  have hB : Below w.heap.size w ((((w.alloc (Obj.cells #[Value.int IntKind.i64 2, Value.int IntKind.i64 (-1), Value.int IntKind.i64 (-2)] 3)).alloc (Obj.cells #[Value.int IntKind.i64 (-1)] 3)).alloc (Obj.cells #[Value.int IntKind.i64 2, Value.int IntKind.i64 (-7), Value.int IntKind.i64 (-3)] 3)).alloc (Obj.cells #[Value.int IntKind.i64 (-7)] 3)) := (below_step (below_step (below_step (below_alloc _) (below_alloc _)) (below_alloc _)) (below_alloc _))
  obtain ⟨W, hW⟩ : ∃ W, W = ((((w.alloc (Obj.cells #[Value.int IntKind.i64 2, Value.int IntKind.i64 (-1), Value.int IntKind.i64 (-2)] 3)).alloc (Obj.cells #[Value.int IntKind.i64 (-1)] 3)).alloc (Obj.cells #[Value.int IntKind.i64 2, Value.int IntKind.i64 (-7), Value.int IntKind.i64 (-3)] 3)).alloc (Obj.cells #[Value.int IntKind.i64 (-7)] 3)) := ⟨_, rfl⟩
  have hsz : W.heap.size = w.heap.size + 4 := by rw [hW]; simp
  have i1 : Is W (.slice (some ⟨w.heap.size, 0, none⟩) 3 3) [2, -1, -2] := by
    refine is_lit (p := [2, -1, -2]) (by omega) (by decide) ⟨ei (by omega) (by omega) ?_, ei (by omega) (by omega) ?_, ei (by omega) (by omega) ?_, trivial⟩ <;> (rw [hW]; repeat (first | (refine cell_newg ?_ rfl; simp; done) | refine cell_old ?_))
  have i2 : Is W (.slice (some ⟨w.heap.size + 1, 0, none⟩) 1 1) [-1] := by
    refine is_lit (p := [-1]) (by omega) (by decide) ⟨ei (by omega) (by omega) ?_, trivial⟩ <;> (rw [hW]; repeat (first | (refine cell_newg ?_ rfl; simp; done) | refine cell_old ?_))
  have i3 : Is W (.slice (some ⟨w.heap.size + 1 + 1, 0, none⟩) 3 3) [2, -7, -3] := by
    refine is_lit (p := [2, -7, -3]) (by omega) (by decide) ⟨ei (by omega) (by omega) ?_, ei (by omega) (by omega) ?_, ei (by omega) (by omega) ?_, trivial⟩ <;> (rw [hW]; repeat (first | (refine cell_newg ?_ rfl; simp; done) | refine cell_old ?_))
  have i4 : Is W (.slice (some ⟨w.heap.size + 1 + 1 + 1, 0, none⟩) 1 1) [-7] := by
    refine is_lit (p := [-7]) (by omega) (by decide) ⟨ei (by omega) (by omega) ?_, trivial⟩ <;> (rw [hW]; repeat (first | (refine cell_newg ?_ rfl; simp; done) | refine cell_old ?_))
  rw [← hW] at hB ⊢
  refine (variant_any sv _ _ _ _ sumS [2, -1, -2] [-1] [2, -7, -3] [-7] W (hs.kp (Kp.of_below hB)) i1 i2 i3 i4 (hT.below hB) (by decide) (by decide) (by decide) (by decide)).mono ?_
  rintro e w' ⟨rfl, hb⟩
  rw [sh5_a]
  exact ⟨rfl, below_step hB hb⟩

set_option maxRecDepth 100000 in
theorem call_v2 (w : World) (sv : Value) (hs : Sg w sv sumS) (hT : Tabs w) : Calls Tryd.prog 40 #[sv, .agg #[.slice (some ⟨w.heap.size, 0, none⟩) 3 3, .slice (some ⟨w.heap.size + 1, 0, none⟩) 1 1], .agg #[.slice (some ⟨w.heap.size + 1 + 1, 0, none⟩) 3 3, .slice (some ⟨w.heap.size + 1 + 1 + 1, 0, none⟩) 1 1]] ((((w.alloc (Obj.cells #[Value.int IntKind.i64 2, Value.int IntKind.i64 (-1), Value.int IntKind.i64 (-2)] 3)).alloc (Obj.cells #[Value.int IntKind.i64 (-1)] 3)).alloc (Obj.cells #[Value.int IntKind.i64 2, Value.int IntKind.i64 (-7), Value.int IntKind.i64 (-3)] 3)).alloc (Obj.cells #[Value.int IntKind.i64 (-3)] 3))
    fun e w' => e = .returned (.bool false) ∧ Below w.heap.size w w' := by
  have hB : Below w.heap.size w ((((w.alloc (Obj.cells #[Value.int IntKind.i64 2, Value.int IntKind.i64 (-1), Value.int IntKind.i64 (-2)] 3)).alloc (Obj.cells #[Value.int IntKind.i64 (-1)] 3)).alloc (Obj.cells #[Value.int IntKind.i64 2, Value.int IntKind.i64 (-7), Value.int IntKind.i64 (-3)] 3)).alloc (Obj.cells #[Value.int IntKind.i64 (-3)] 3)) := (below_step (below_step (below_step (below_alloc _) (below_alloc _)) (below_alloc _)) (below_alloc _))
  obtain ⟨W, hW⟩ : ∃ W, W = ((((w.alloc (Obj.cells #[Value.int IntKind.i64 2, Value.int IntKind.i64 (-1), Value.int IntKind.i64 (-2)] 3)).alloc (Obj.cells #[Value.int IntKind.i64 (-1)] 3)).alloc (Obj.cells #[Value.int IntKind.i64 2, Value.int IntKind.i64 (-7), Value.int IntKind.i64 (-3)] 3)).alloc (Obj.cells #[Value.int IntKind.i64 (-3)] 3)) := ⟨_, rfl⟩
  have hsz : W.heap.size = w.heap.size + 4 := by rw [hW]; simp
  have i1 : Is W (.slice (some ⟨w.heap.size, 0, none⟩) 3 3) [2, -1, -2] := by
    refine is_lit (p := [2, -1, -2]) (by omega) (by decide) ⟨ei (by omega) (by omega) ?_, ei (by omega) (by omega) ?_, ei (by omega) (by omega) ?_, trivial⟩ <;> (rw [hW]; repeat (first | (refine cell_newg ?_ rfl; simp; done) | refine cell_old ?_))
  have i2 : Is W (.slice (some ⟨w.heap.size + 1, 0, none⟩) 1 1) [-1] := by
    refine is_lit (p := [-1]) (by omega) (by decide) ⟨ei (by omega) (by omega) ?_, trivial⟩ <;> (rw [hW]; repeat (first | (refine cell_newg ?_ rfl; simp; done) | refine cell_old ?_))
  have i3 : Is W (.slice (some ⟨w.heap.size + 1 + 1, 0, none⟩) 3 3) [2, -7, -3] := by
    refine is_lit (p := [2, -7, -3]) (by omega) (by decide) ⟨ei (by omega) (by omega) ?_, ei (by omega) (by omega) ?_, ei (by omega) (by omega) ?_, trivial⟩ <;> (rw [hW]; repeat (first | (refine cell_newg ?_ rfl; simp; done) | refine cell_old ?_))
  have i4 : Is W (.slice (some ⟨w.heap.size + 1 + 1 + 1, 0, none⟩) 1 1) [-3] := by
    refine is_lit (p := [-3]) (by omega) (by decide) ⟨ei (by omega) (by omega) ?_, trivial⟩ <;> (rw [hW]; repeat (first | (refine cell_newg ?_ rfl; simp; done) | refine cell_old ?_))
  rw [← hW] at hB ⊢
  refine (variant_any sv _ _ _ _ sumS [2, -1, -2] [-1] [2, -7, -3] [-3] W (hs.kp (Kp.of_below hB)) i1 i2 i3 i4 (hT.below hB) (by decide) (by decide) (by decide) (by decide)).mono ?_
  rintro e w' ⟨rfl, hb⟩
  rw [sh5_b]
  exact ⟨rfl, below_step hB hb⟩

end Go.Proofs.YtfeeafkfjngemaaDoor

/- The document's Variant of layer 5 walked. -/
namespace Go.Proofs.YtfeeafkfjngemaaDoor
open Go.RowKit Go.Maps Go.BigFrame

/-- Variant's answer. -/
def vrB (sig : List Sy) (p q r s : List Int) : Bool := termsB sig [p, q, r, s] && decide (canL [p, q] = canL [r, s])

theorem vrB_iff {sig : List Sy} {p q r s : List Int} : vrB sig p q r s = true ↔ (termE sig p = 0 ∧ termE sig q = 0 ∧ termE sig r = 0 ∧ termE sig s = 0) ∧ p.length = r.length ∧ q.length = s.length ∧ Alike (p ++ q) (r ++ s) (metA [] (p ++ q)) (metA [] (r ++ s)) := by
  unfold vrB termsB
  rw [Bool.and_eq_true, decide_eq_true_eq, can_iff]
  simp

theorem vrB_no {sig : List Sy} {p q r s : List Int} (h : ¬ ((termE sig p = 0 ∧ termE sig q = 0 ∧ termE sig r = 0 ∧ termE sig s = 0) ∧ p.length = r.length ∧ q.length = s.length ∧ Alike (p ++ q) (r ++ s) (metA [] (p ++ q)) (metA [] (r ++ s)))) : vrB sig p q r s = false := by
  rw [Bool.eq_false_iff]
  exact fun h9 => h (vrB_iff.1 h9)

theorem size_allocV (w : World) (o : Obj) : (w.alloc o).heap.size = w.heap.size + 1 := World.size_alloc w o

theorem vars_at {x : List Int} {k : Nat} {v : Int} (h : (varsL x)[k]? = some v) : (metA [] x)[k]? = some (-1 - v) := by
  unfold varsL at h
  rw [List.getElem?_map] at h
  cases hm : (metA [] x)[k]? with
  | none => rw [hm] at h; simp at h
  | some c =>
    rw [hm] at h
    simp at h
    simp only [Option.some.injEq]
    omega

theorem vars_of {x : List Int} {k : Nat} {c : Int} (h : (metA [] x)[k]? = some c) : (varsL x)[k]? = some (-1 - c) := by
  unfold varsL
  rw [List.getElem?_map, h]
  rfl

end Go.Proofs.YtfeeafkfjngemaaDoor

/- The document's Same of layer 7 walked. -/
namespace Go.Proofs.YtfeeafkfjngemaaDoor
open Go.RowKit Go.Maps Go.BigFrame

theorem vrN_next {sig : List Sy} {x y : Rl} {L : List Rl} {k : Nat} (h : L[k]? = some y) : vrN sig x (L.take (k + 1)) = vrN sig x (L.take k) + (if vrP sig x y then 1 else 0) := by
  unfold vrN
  rw [take_get h, List.countP_append, List.countP_singleton]

theorem vrN_le {sig : List Sy} {x : Rl} (L : List Rl) (k : Nat) (h : L.length ≤ 64) : vrN sig x (L.take k) ≤ 64 := by
  unfold vrN
  refine Nat.le_trans List.countP_le_length ?_
  rw [List.length_take]
  omega

end Go.Proofs.YtfeeafkfjngemaaDoor

/- The example's system. -/
namespace Go.Proofs.YtfeeafkfjngemaaDoor
open Go.RowKit Go.Maps Go.BigFrame

/-- The example's system lies in the blocks from B on. -/
structure AddsAt (W : World) (B : Nat) : Prop where
  size : B + 7 ≤ W.heap.size
  sig : Sg W (.slice (some ⟨B + 1, 0, none⟩) 3 3) sumS
  l0 : Is W (.slice (some ⟨B + 2, 0, none⟩) 3 3) [2, 0, -2]
  r0 : Is W (.slice (some ⟨B + 3, 0, none⟩) 1 1) [-2]
  l1 : Is W (.slice (some ⟨B + 4, 0, none⟩) 4 4) [2, 1, -1, -2]
  r1 : Is W (.slice (some ⟨B + 5, 0, none⟩) 4 4) [1, 2, -1, -2]

theorem heap_newg {w : World} {o : Obj} {g : Nat} (h : g = w.heap.size) : (w.alloc o).heap[g]? = some o := by
  subst h
  exact heap_alloc_new _ _

/-- What its rules' block holds. -/
def AddsR (W : World) (B : Nat) : Prop := W.heap[B + 6]? = some (.cells #[.slice (some ⟨B + 2, 0, none⟩) 3 3, .slice (some ⟨B + 3, 0, none⟩) 1 1, .slice (some ⟨B + 4, 0, none⟩) 4 4, .slice (some ⟨B + 5, 0, none⟩) 4 4] 37)

set_option maxRecDepth 100000 in
set_option maxHeartbeats 1600000 in
theorem adds_any (w : World) :
    Calls Tryd.prog 14 #[] w fun e w' => e = .returned (.agg #[.slice (some ⟨w.heap.size + 1, 0, none⟩) 3 3, .slice (some ⟨w.heap.size + 6, 0, none⟩) 2 2]) ∧ AddsAt w' w.heap.size ∧ AddsR w' w.heap.size ∧ w'.heap.size = w.heap.size + 7 ∧ Below w.heap.size w w' := by
  go_enter Tryd.func14, Tryd.ntmps14
  go_wp2
  generalize hW : World.alloc _ _ = W
  have hsz : W.heap.size = w.heap.size + 7 := by rw [← hW]; simp
  have hb : Below w.heap.size w W := by
    rw [← hW]
    exact below_step (below_step (below_step (below_step (below_step (below_step (below_alloc _) (below_alloc _)) (below_alloc _)) (below_alloc _)) (below_alloc _)) (below_alloc _)) (below_alloc _)
  have k0 : W.cell? ⟨w.heap.size, 0, none⟩ = some (.slice (some ⟨w.heap.size + 1, 0, none⟩) 3 3) := by rw [← hW]; repeat (first | (refine cell_newg ?_ rfl; simp; done) | refine cell_old ?_)
  have k1 : W.cell? ⟨w.heap.size, 1, none⟩ = some (.slice (some ⟨w.heap.size + 6, 0, none⟩) 2 2) := by rw [← hW]; repeat (first | (refine cell_newg ?_ rfl; simp; done) | refine cell_old ?_)
  have hA : AddsAt W w.heap.size := by
    refine ⟨by omega, ?_, ?_, ?_, ?_, ?_⟩
    · refine sg_lit (p := sumS) (by omega) (by decide) ⟨⟨by decide, by decide, by decide, ?_, ?_⟩, ⟨by decide, by decide, by decide, ?_, ?_⟩, ⟨by decide, by decide, by decide, ?_, ?_⟩, trivial⟩ <;> (rw [← hW]; repeat (first | (refine cell_newg ?_ rfl; simp; done) | refine cell_old ?_))
    · refine is_lit (p := [2, 0, -2]) (by omega) (by decide) ⟨ei (by omega) (by omega) ?_, ei (by omega) (by omega) ?_, ei (by omega) (by omega) ?_, trivial⟩ <;> (rw [← hW]; repeat (first | (refine cell_newg ?_ rfl; simp; done) | refine cell_old ?_))
    · refine is_lit (p := [-2]) (by omega) (by decide) ⟨ei (by omega) (by omega) ?_, trivial⟩ <;> (rw [← hW]; repeat (first | (refine cell_newg ?_ rfl; simp; done) | refine cell_old ?_))
    · refine is_lit (p := [2, 1, -1, -2]) (by omega) (by decide) ⟨ei (by omega) (by omega) ?_, ei (by omega) (by omega) ?_, ei (by omega) (by omega) ?_, ei (by omega) (by omega) ?_, trivial⟩ <;> (rw [← hW]; repeat (first | (refine cell_newg ?_ rfl; simp; done) | refine cell_old ?_))
    · refine is_lit (p := [1, 2, -1, -2]) (by omega) (by decide) ⟨ei (by omega) (by omega) ?_, ei (by omega) (by omega) ?_, ei (by omega) (by omega) ?_, ei (by omega) (by omega) ?_, trivial⟩ <;> (rw [← hW]; repeat (first | (refine cell_newg ?_ rfl; simp; done) | refine cell_old ?_))
  have hR : AddsR W w.heap.size := by
    unfold AddsR
    rw [← hW]
    exact heap_newg (by simp)
  clear hW
  refine bodyPost_ret (results_one rfl rfl ?_) rfl ⟨rfl, hA, hR, hsz, hb⟩
  go_simp

end Go.Proofs.YtfeeafkfjngemaaDoor

/- The examples of layer 7, plainly, and rules in a block of their own. -/
namespace Go.Proofs.YtfeeafkfjngemaaDoor
open Go.RowKit Go.Maps Go.BigFrame

def addR0 : Rl := ([2, 0, -2], [-2])
def addR1 : Rl := ([2, 1, -1, -2], [1, 2, -1, -2])
def addR2 : Rl := ([2, 1, -1, -2], [-3])

theorem sh7_check : sysE sumS [addR0, addR1] = (0, 0) := by kernel_rfl
theorem sh7_bad : sysE sumS [addR2, addR0] = (72, 0) := by kernel_rfl
theorem sh7_same : sameB sumS [addR0, addR1] sumS [addR1, addR0] = true := by kernel_rfl
theorem sh7_other : sameB sumS [addR0, addR1] sumS [addR2, addR0] = false := by kernel_rfl
theorem sh7_defined : definedL sumS [addR0, addR1] = [2] := by
  have h1 : sysB sumS [addR0, addR1] = true := by kernel_rfl
  have h2 : rootsL [addR0, addR1] = [2, 2] := by kernel_rfl
  have h3 : sortI [2, 2] = [2, 2] := by
    unfold sortI
    exact List.mergeSort_of_pairwise (by simp)
  have h4 : Lib.compact [(2 : Int), 2] = [2] := by decide
  unfold definedL
  rw [h1, h2, h3, h4]
  rfl

/-- Two rules in a block. -/
theorem ru_lit2 {W : World} {g : Nat} {a0 a1 a2 a3 : Option Addr} {n0 n1 n2 n3 c0 c1 c2 c3 : Nat} {p q r s : List Int} (h0 : W.cell? ⟨g, 0, none⟩ = some (.slice a0 n0 c0)) (h1 : W.cell? ⟨g, 1, none⟩ = some (.slice a1 n1 c1)) (h2 : W.cell? ⟨g, 2, none⟩ = some (.slice a2 n2 c2)) (h3 : W.cell? ⟨g, 3, none⟩ = some (.slice a3 n3 c3))
    (i0 : Is W (.slice a0 n0 c0) p) (i1 : Is W (.slice a1 n1 c1) q) (i2 : Is W (.slice a2 n2 c2) r) (i3 : Is W (.slice a3 n3 c3) s) (l0 : p.length ≤ 99) (l1 : q.length ≤ 99) (l2 : r.length ≤ 99) (l3 : s.length ≤ 99) : RU W (.slice (some ⟨g, 0, none⟩) 2 2) [(p, q), (r, s)] := by
  refine ⟨some ⟨g, 0, none⟩, 2, rfl, Nat.le_refl _, by unfold maxLen; omega, fun _ => ⟨g, 0, rfl, World.block_lt_of_cell? _ _ h0, fun k x hk => ?_⟩⟩
  match k, hk with
  | 0, hk =>
    cases hk
    exact ⟨by simp only; omega, by simp only; omega, _, _, h0, h1, i0, i1⟩
  | 1, hk =>
    cases hk
    exact ⟨by simp only; omega, by simp only; omega, _, _, h2, h3, i2, i3⟩
  | k + 2, hk => simp at hk

end Go.Proofs.YtfeeafkfjngemaaDoor

/- The examples of layer 7 come out true. -/
namespace Go.Proofs.YtfeeafkfjngemaaDoor
open Go.RowKit Go.Maps Go.BigFrame

/-- All blocks of W but X are as they were. -/
structure Exc (W W' : World) (X : Nat) : Prop where
  size : W.heap.size ≤ W'.heap.size
  same : ∀ g, g ≠ X → g < W.heap.size → W'.heap[g]? = W.heap[g]?

theorem Exc.cell {W W' : World} {X g o : Nat} {v : Value} (h : Exc W W' X) (hne : g ≠ X) (hc : W.cell? ⟨g, o, none⟩ = some v) : W'.cell? ⟨g, o, none⟩ = some v :=
  (cell_block (h.same g hne (World.block_lt_of_cell? _ _ hc)) o).trans hc

theorem Exc.is {W W' : World} {X g o n c : Nat} {xs : List Int} (h : Exc W W' X) (hne : g ≠ X) (hi : Is W (.slice (some ⟨g, o, none⟩) n c) xs) : Is W' (.slice (some ⟨g, o, none⟩) n c) xs := by
  obtain ⟨ao, cap, hv, h1, h2, h3⟩ := hi
  simp only [Value.slice.injEq] at hv
  obtain ⟨rfl, rfl, rfl⟩ := hv
  refine ⟨_, _, rfl, h1, h2, fun hp => ?_⟩
  obtain ⟨g', o', e, hl, hc⟩ := h3 hp
  cases e
  exact ⟨g, o, rfl, Nat.lt_of_lt_of_le hl h.size, fun k x hk => ⟨(hc k x hk).1, (hc k x hk).2.1, h.cell hne (hc k x hk).2.2⟩⟩

theorem Exc.sg {W W' : World} {X g o n c : Nat} {xs : List Sy} (h : Exc W W' X) (hne : g ≠ X) (hi : Sg W (.slice (some ⟨g, o, none⟩) n c) xs) : Sg W' (.slice (some ⟨g, o, none⟩) n c) xs := by
  obtain ⟨ao, cap, hv, h1, h2, h3⟩ := hi
  simp only [Value.slice.injEq] at hv
  obtain ⟨rfl, rfl, rfl⟩ := hv
  refine ⟨_, _, rfl, h1, h2, fun hp => ?_⟩
  obtain ⟨g', o', e, hl, hc⟩ := h3 hp
  cases e
  refine ⟨g, o, rfl, Nat.lt_of_lt_of_le hl h.size, fun k x hk => ?_⟩
  obtain ⟨e1, e2, e3, e4, e5⟩ := hc k x hk
  exact ⟨e1, e2, e3, h.cell hne e4, h.cell hne e5⟩

theorem AddsAt.exc {W W' : World} {X B : Nat} (h : AddsAt W B) (he : Exc W W' X) (hX : X < B + 1 ∨ B + 6 ≤ X) : AddsAt W' B :=
  ⟨Nat.le_trans h.size he.size, he.sg (by omega) h.sig, he.is (by omega) h.l0, he.is (by omega) h.r0, he.is (by omega) h.l1, he.is (by omega) h.r1⟩

theorem AddsAt.kp {W W' : World} {B : Nat} (h : AddsAt W B) (hk : Kp W W') : AddsAt W' B :=
  ⟨Nat.le_trans h.size hk.size, h.sig.kp hk, h.l0.kp hk, h.r0.kp hk, h.l1.kp hk, h.r1.kp hk⟩

theorem AddsR.cells {W : World} {B : Nat} (h : AddsR W B) : W.cell? ⟨B + 6, 0, none⟩ = some (.slice (some ⟨B + 2, 0, none⟩) 3 3) ∧ W.cell? ⟨B + 6, 1, none⟩ = some (.slice (some ⟨B + 3, 0, none⟩) 1 1) ∧ W.cell? ⟨B + 6, 2, none⟩ = some (.slice (some ⟨B + 4, 0, none⟩) 4 4) ∧ W.cell? ⟨B + 6, 3, none⟩ = some (.slice (some ⟨B + 5, 0, none⟩) 4 4) := by
  unfold AddsR at h
  exact ⟨cell_of_row _ _ _ _ _ _ h, cell_of_row _ _ _ _ _ _ h, cell_of_row _ _ _ _ _ _ h, cell_of_row _ _ _ _ _ _ h⟩

theorem adds_ru {W : World} {B : Nat} (h : AddsAt W B) (hr : AddsR W B) : RU W (.slice (some ⟨B + 6, 0, none⟩) 2 2) [addR0, addR1] := by
  obtain ⟨h0, h1, h2, h3⟩ := hr.cells
  exact ru_lit2 h0 h1 h2 h3 h.l0 h.r0 h.l1 h.r1 (by decide) (by decide) (by decide) (by decide)

/-- The world behind the swap of the example's rules. -/
theorem swap_world {W X : World} {B : Nat} (hR : AddsR W B) (hX : ((((W.setCell ⟨B + 6, 0, none⟩ (.slice (some ⟨B + 4, 0, none⟩) 4 4)).setCell ⟨B + 6, 1, none⟩ (.slice (some ⟨B + 5, 0, none⟩) 4 4)).setCell ⟨B + 6, 2, none⟩ (.slice (some ⟨B + 2, 0, none⟩) 3 3)).setCell ⟨B + 6, 3, none⟩ (.slice (some ⟨B + 3, 0, none⟩) 1 1)).drew = X) :
    Exc W X (B + 6) ∧ X.heap[B + 6]? = some (.cells #[.slice (some ⟨B + 4, 0, none⟩) 4 4, .slice (some ⟨B + 5, 0, none⟩) 4 4, .slice (some ⟨B + 2, 0, none⟩) 3 3, .slice (some ⟨B + 3, 0, none⟩) 1 1] 37) ∧ ∀ b w0, b ≤ B + 6 → Below b w0 W → Below b w0 X := by
  subst hX
  refine ⟨⟨by simp, fun g hne _ => ?_⟩, ?_, fun b w0 hle hb => ?_⟩
  · show (World.setCell _ _ _).heap[g]? = _
    rw [heap_setCell_other _ _ _ _ hne, heap_setCell_other _ _ _ _ hne, heap_setCell_other _ _ _ _ hne, heap_setCell_other _ _ _ _ hne]
  · show (World.setCell _ _ _).heap[B + 6]? = _
    exact heap_setCell_same _ _ _ _ _ _ (heap_setCell_same _ _ _ _ _ _ (heap_setCell_same _ _ _ _ _ _ (heap_setCell_same _ _ _ _ _ _ hR)))
  · exact ((((hb.setCell (p := ⟨B + 6, 0, none⟩) hle _).setCell (p := ⟨B + 6, 1, none⟩) hle _).setCell (p := ⟨B + 6, 2, none⟩) hle _).setCell (p := ⟨B + 6, 3, none⟩) hle _).drew

end Go.Proofs.YtfeeafkfjngemaaDoor
