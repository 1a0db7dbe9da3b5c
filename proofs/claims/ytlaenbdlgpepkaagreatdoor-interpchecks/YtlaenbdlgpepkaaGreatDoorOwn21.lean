/- Texts of the proof, one behind the other. -/
import Derived.Test.YtlaenbdlgpepkaaGreatDoorOwn20
import Derived.Test.YtlaenbdlgpepkaaGreatDoorOwn4
import Derived.Shelf.Strings.Prefix
import Derived.Test.YtlaenbdlgpepkaaGreatDoorOwn5
import Derived.Test.YtlaenbdlgpepkaaGreatDoorOwn18
import Derived.Test.YtlaenbdlgpepkaaGreatDoorOwn6
import Derived.Test.YtlaenbdlgpepkaaGreatDoorOwn1
import Derived.Sort.QuietTacIn
import Derived.Sort.CutIn
import Derived.Deep.DeepAppendRoom
import Derived.Test.YtlaenbdlgpepkaaGreatDoorOwn19
import Derived.Ground.NamesProg
import Derived.Shelf.Lay
import Derived.Shelf.Sort.Plain
import Derived.Shelf.Slices.In.SortNone
import Derived.Sort.OwnSortedInts
import Derived.Ground.Names2Prog
import Derived.Shelf.Slices.CompactI
/- The document's alone and Strict of layer 12. -/
namespace Go.Proofs.YtlaenbdlgpepkaaGreatDoor
open Go.RowKit Go.Maps Go.BigFrame

set_option maxRecDepth 100000 in
set_option maxHeartbeats 1600000 in
theorem refAlone_any (cv ev : Value) (m : Mn) (v : Nat) (w : World) (hm : Mo w cv ev m) (hv : v ≤ 1000) :
    Calls Tryz.prog 44 #[.agg #[cv, ev], .int .i64 (v : Int)] w fun e w' => e = .returned (.bool (alonB v m)) ∧ Below w.heap.size w w' := by
  obtain ⟨a1, c1, rfl, hc1, hc2, _⟩ := hm.1.flat
  obtain ⟨a2, c2, rfl, he1, he2, _⟩ := Row.flat hm.2
  unfold maxLen at hc2 he2
  have HM := hid hm.2
  clear hm
  obtain ⟨W, hW⟩ : ∃ X, X = w.alloc (.cells #[.slice a1 m.1.length c1, .slice a2 m.2.length c2] 37) := ⟨_, rfl⟩
  have BW : Hid (Below w.heap.size w W) := by rw [hW]; exact below_alloc _
  have Y1 : Hid (W.cell? ⟨w.heap.size, 1, none⟩ = some (.slice a2 m.2.length c2)) := by show _ = _; rw [hW, cell_of_row _ _ _ _ _ _ (heap_alloc_new _ _)]; rfl
  go_enter Tryz.func44, Tryz.ntmps44
  go_upto_region 1 with fail
  rw [← hW]
  clear hW
  generalize w.heap.size = gb at Y1 ⊢
  have y1 := Y1.out
  by_cases hl : m.2.length = v + 1
  · have HA : Hid (alonB v m = !((m.2.take v).any fun x => x != 0)) := by show _ = _; unfold alonB; rw [decide_eq_true hl, Bool.true_and]
    have hd1 : ((m.2.length : Int) != (v : Int) + 1) = false := by simp; omega
    have HN := hid hl
    have hvl : v < m.2.length := by omega
    clear hl
    go_wp2
    clear y1
    go_loopw [5] (fun x wr => ∃ k : Nat, k ≤ v ∧ x = .int .i64 k ∧ (m.2.take k).any (fun x => x != 0) = false ∧ wr = W) (fun x _ => v - (intOf x).toNat)
    case atStart => exact ⟨0, Nat.zero_le _, rfl, by simp, rfl⟩
    case round =>
      obtain ⟨k, hk, rfl, hno, hwr⟩ := hrel
      have HNo := hid hno
      clear hno
      subst hwr
      have y1 := Y1.out
      by_cases hlt : k < v
      · obtain ⟨g, off, x, rfl, hx1, hx2, hx3, hx4⟩ := (HM.out.kp (Kp.of_below BW.out)).at (Nat.lt_trans hlt hvl)
        have HX := hid hx1
        have hkl : k < m.2.length := Nat.lt_trans hlt hvl
        clear hx1
        by_cases h0 : x = 0
        · have hne : (x != 0) = false := by simpa using h0
          have HF : Hid ((m.2.take (k + 1)).any (fun x => x != 0) = false) := by
            show _ = _
            rw [take_get HX.out, List.any_append, HNo.out]
            simp [h0]
          subst h0
          go_wp2
          go_roundw
          case rel => exact ⟨k + 1, hlt, by go_num, HF.out, trivial⟩
          case measure => simp [intOf] <;> omega
        · have hne : (x != 0) = true := by rw [bne_iff_ne]; exact h0
          have HF : Hid (alonB v m = false) := by
            show _ = _
            rw [HA.out, Bool.not_eq_false', List.any_eq_true]
            exact ⟨x, List.mem_of_getElem? (by rw [List.getElem?_take_of_lt hlt]; exact HX.out), hne⟩
          go_wp2
          go_ret
          exact ⟨ret1b HF.out.symm, BW.out⟩
      · obtain rfl : k = v := by omega
        have HF : Hid (alonB k m = true) := by show _ = _; rw [HA.out, HNo.out]; rfl
        go_wp2
        go_ret
        exact ⟨ret1b HF.out.symm, BW.out⟩
  · have HA : Hid (alonB v m = false) := by show _ = _; unfold alonB; rw [decide_eq_false hl, Bool.false_and]
    have hd1 : ((m.2.length : Int) != (v : Int) + 1) = true := by rw [bne_iff_ne]; omega
    clear hl
    go_wp2
    go_ret
    exact ⟨ret1b HA.out.symm, BW.out⟩

set_option maxRecDepth 100000 in
set_option maxHeartbeats 6400000 in
theorem refStrict12_any (sv lv : Value) (sig : List Sy) (l : List Ip) (w : World) (hs : Sg w sv sig) (hl : Ins w lv l) :
    Calls Tryz.prog 14 #[sv, lv] w fun e w' => e = .returned (.bool (strB sig l)) ∧ Below w.heap.size w w' := by
  have HCk := hid (refCheck12_any sv lv sig l w hs hl)
  obtain ⟨so, sc, rfl, hso, hsc, _⟩ := Row.flat hs
  obtain ⟨lo, lc, rfl, hlo, hlc, _⟩ := Row.flat hl
  unfold maxLen at hsc hlc
  have HS := hid hs
  have HL := hid hl
  clear hs hl
  go_enter Tryz.func14, Tryz.ntmps14
  go_wp2_with fail
  refine HCk.out.mono ?_
  rintro e w1 ⟨rfl, hb1⟩
  have B1 := hid hb1
  clear hb1 HCk
  by_cases hE : inE sig l = 0
  · have HR : Hid (strB sig l = allRis sig l) := by show _ = _; unfold strB; rw [decide_eq_true hE, Bool.true_and]
    have HOk := hid (inE_ok hE)
    have HAo : Hid (ArOk sig) := hid (sigE_ok HOk.out.1)
    rw [hE]
    clear hE
    go_wp2
    go_loopw [5] (fun x wr => ∃ k : Nat, k ≤ l.length ∧ x = .int .i64 k ∧ (∀ y ∈ l.take k, risB (arI sig y.1).toNat y.2 = true) ∧ Below w.heap.size w wr) (fun x _ => l.length - (intOf x).toNat)
    case atStart => exact ⟨0, Nat.zero_le _, rfl, fun y hy => by simp at hy, B1.out⟩
    case round =>
      clear B1
      obtain ⟨k, hk, rfl, hall, hbl⟩ := hrel
      have HA := hid hall
      have BL := hid hbl
      clear hall hbl
      by_cases hlt : k < l.length
      · obtain ⟨g, off, c, p, a1, c1, rfl, hm, hc0w, hc1w, hp, hcl, hcu, hp1, hp2⟩ := HL.out.at hlt
        have hmem : (c, p) ∈ l := List.mem_of_getElem? hm
        obtain ⟨ci, hci⟩ := Int.eq_ofNat_of_zero_le (HOk.out.2 _ hmem).1
        have hlt2 := (HOk.out.2 _ hmem).2.1
        simp only at hci hlt2
        subst hci
        have hcs : ci < sig.length := by omega
        obtain ⟨gs, os, sn, ar, rfl, hsm, _, hsa, hal, hau, _⟩ := HS.out.at hcs
        have har := HAo.out _ (List.mem_of_getElem? hsm)
        simp only at har
        obtain ⟨an, rfl⟩ := Int.eq_ofNat_of_zero_le har.1
        have han : an ≤ 1000 := by omega
        have HAr : Hid (arI sig (ci : Int) = (an : Int)) := by show _ = _; unfold arI; rw [Int.toNat_natCast, hsm]
        have HMem := hid hmem
        have HM := hid hm
        have HP := hid hp
        have X0 := hid hc0w
        have X1 := hid hc1w
        have X2 := hid hsa
        clear hm hp hc0w hc1w hmem hsm hsa har hal hau
        go_wp2
        go_loopw [6] (fun x wy => ∃ j : Nat, j ≤ an ∧ x = .int .i64 j ∧ (∀ v, v < j → p.any (alonB v) = true) ∧ Below w.heap.size w wy) (fun x _ => an - (intOf x).toNat)
        case atStart => exact ⟨0, Nat.zero_le _, rfl, fun v hv => absurd hv (by omega), BL.out⟩
        case round =>
          obtain ⟨j, hj, rfl, hjs, hbj⟩ := hrel
          have HJ := hid hjs
          have BJ := hid hbj
          clear hjs hbj BL
          have x0 := (Kp.of_below BJ.out).cell _ _ X0.out
          have x2 := (Kp.of_below BJ.out).cell _ _ X2.out
          by_cases hja : j < an
          · go_wp2
            clear x0 x2
            go_loopw [7, 8] (fun b x wz => ∃ i : Nat, i ≤ p.length ∧ x = .int .i64 i ∧ b = .bool ((p.take i).any (alonB j)) ∧ Below w.heap.size w wz) (fun _ x _ => p.length - (intOf x).toNat)
            case atStart => exact ⟨0, Nat.zero_le _, rfl, by simp, BJ.out⟩
            case round =>
              clear BJ
              obtain ⟨i, hi, rfl, rfl, hbi⟩ := hrel
              have BI := hid hbi
              clear hbi
              have x1 := (Kp.of_below BI.out).cell _ _ X1.out
              by_cases hip : i < p.length
              · obtain ⟨g2, o2, cc, es, b1, d1, b2, d2, rfl, hq1, hq2, hq3, hmo, _, _, _, _⟩ := (HP.out.kp (Kp.of_below BI.out)).at hip
                have HQ := hid hq1
                have HMo := hid hmo
                clear hq1 hmo
                have HT : Hid ((p.take (i + 1)).any (alonB j) = ((p.take i).any (alonB j) || alonB j (cc, es))) := by
                  show _ = _
                  rw [take_get HQ.out, List.any_append]
                  simp only [List.any_cons, List.any_nil, Bool.or_false]
                generalize hB : (p.take i).any (alonB j) = B at HT ⊢
                have HB := hid hB
                clear hB
                cases B with
                | true =>
                  go_wp2
                  go_roundw
                  case rel => exact ⟨i + 1, hip, by go_num, by rw [HT.out]; rfl, BI.out⟩
                  case measure => simp [intOf] <;> omega
                | false =>
                  go_wp2_with fail
                  refine (refAlone_any _ _ (cc, es) j wr HMo.out (by omega)).mono ?_
                  rintro e w5 ⟨rfl, hb5⟩
                  have B5 := hid (below_step BI.out hb5)
                  clear hb5
                  generalize hC : alonB j (cc, es) = C at HT ⊢
                  clear hC
                  go_wp2
                  go_roundw
                  case rel => exact ⟨i + 1, hip, by go_num, by rw [HT.out]; rfl, B5.out⟩
                  case measure => simp [intOf] <;> omega
              · have hie : i = p.length := by omega
                have HTk : Hid ((p.take i).any (alonB j) = p.any (alonB j)) := by show _ = _; rw [hie, List.take_length]
                rw [HTk.out]
                generalize hB : p.any (alonB j) = B
                have HB := hid hB
                clear hB hie
                cases B with
                | true =>
                  have HJn : Hid (∀ v, v < j + 1 → p.any (alonB v) = true) := fun v hv => by
                    rcases Nat.lt_succ_iff_lt_or_eq.1 hv with h | h
                    · exact HJ.out v h
                    · rw [h]; exact HB.out
                  go_wp2
                  go_roundw
                  case rel => exact ⟨j + 1, hja, by go_num, HJn.out, BI.out⟩
                  case measure => simp [intOf] <;> omega
                | false =>
                  have HF : Hid (strB sig l = false) := by
                    show _ = _
                    rw [HR.out]
                    exact allRis_no HMem.out (risB_no (v := j) (by simp only [HAr.out, Int.toNat_natCast]; exact hja) HB.out)
                  go_wp2
                  go_ret
                  exact ⟨ret1b HF.out.symm, BI.out⟩
          · obtain rfl : j = an := by omega
            have HAn : Hid (∀ y ∈ l.take (k + 1), risB (arI sig y.1).toNat y.2 = true) := fun y hy => by
              rw [take_get HM.out] at hy
              rcases List.mem_append.1 hy with h | h
              · exact HA.out y h
              · obtain rfl := List.mem_singleton.1 h
                exact risB_yes (fun v hv => HJ.out v (by simp only [HAr.out, Int.toNat_natCast] at hv; exact hv))
            go_wp2
            go_roundw
            case rel => exact ⟨k + 1, hlt, by go_num, HAn.out, BJ.out⟩
            case measure => simp [intOf] <;> omega
      · have HF : Hid (strB sig l = true) := by
          show _ = _
          rw [HR.out]
          unfold allRis
          rw [List.all_eq_true]
          intro y hy
          exact HA.out y (by rw [List.take_of_length_le (by omega)]; exact hy)
        go_wp2
        go_ret
        exact ⟨ret1b HF.out.symm, BL.out⟩
  · have HF : Hid (strB sig l = false) := by show _ = _; unfold strB; rw [decide_eq_false hE, Bool.false_and]
    have hne : (inE sig l != 0) = true := by rw [bne_iff_ne]; exact hE
    clear hE
    generalize inE sig l = z at hne ⊢
    go_wp2
    go_ret
    exact ⟨ret1b HF.out.symm, B1.out⟩

end Go.Proofs.YtlaenbdlgpepkaaGreatDoor

/- checkRule, Check and isRight of package system walked. -/
namespace Go.Proofs.YtlaenbdlgpepkaaGreatDoor
open Go.RowKit Go.Maps Go.BigFrame

theorem row_posS {sig : List Sy} {u : List Int} (h : rowE sig u = 0) : 0 < u.length := by
  cases u with
  | nil => simp [rowE, firstT] at h
  | cons c u => simp

/-- A rule: its sides. -/
abbrev Rl := List Int × List Int

/-- What is wrong with a rule, of a signature that may be. -/
def ruleE (sig : List Sy) (r : Rl) : Int :=
  if termE sig r.1 = 0 then (if termE sig r.2 = 0 then (if 512 < r.1.length ∨ 512 < r.2.length then 2 else if (r.1[0]?).getD 0 < 0 then 71 else if freeB r.1 r.2 then 72 else 0) else termE sig r.2) else termE sig r.1

set_option maxRecDepth 100000 in
set_option maxHeartbeats 1600000 in
theorem checkRule_any (sv lv rv : Value) (sig : List Sy) (l r : List Int) (w : World) (hs : Sg w sv sig) (hl : Is w lv l) (hr : Is w rv r) (hT : Tabs w) (h1 : l.length * 8 ≤ 140737488351232) (h2 : r.length * 8 ≤ 140737488351232) :
    Calls Tryz.prog 161 #[sv, .agg #[lv, rv]] w fun e w' => e = .returned (.int .i64 (ruleE sig (l, r))) ∧ Below w.heap.size w w' := by
  obtain ⟨a1, c1, e1, _⟩ := hl.flatI
  subst e1
  obtain ⟨a2, c2, e2, _⟩ := hr.flatI
  subst e2
  have HS := hid hs
  have HL := hid hl
  have HR := hid hr
  have HT := hid hT
  clear hs hl hr hT
  obtain ⟨w0, hw0⟩ : ∃ X, X = w.alloc (.cells #[.slice a1 l.length c1, .slice a2 r.length c2] 41) := ⟨_, rfl⟩
  have C0 : Hid (Below w.heap.size w w0) := by rw [hw0]; exact below_alloc _
  have HC : Hid (∀ W, Below w0.heap.size w0 W → W.cell? ⟨w.heap.size, 0, none⟩ = some (.slice a1 l.length c1) ∧ W.cell? ⟨w.heap.size, 1, none⟩ = some (.slice a2 r.length c2)) := fun W hW => by
    have hk := Kp.of_below hW
    rw [hw0] at hk
    exact ⟨hk.cell _ _ (cell_new rfl), hk.cell _ _ (cell_new rfl)⟩
  obtain ⟨E, hE⟩ : ∃ E, E = ruleE sig (l, r) := ⟨_, rfl⟩
  have HE := hid hE
  rw [← hE]
  clear hE
  unfold ruleE at HE
  go_enter Tryz.func161, Tryz.ntmps161
  go_wp2_with fail
  rw [← hw0]
  clear hw0
  refine (check_any sv _ sig l w0 (HS.out.kp (Kp.of_below C0.out)) (HL.out.kp (Kp.of_below C0.out)) (HT.out.below C0.out) h1).mono ?_
  rintro e w1 ⟨rfl, hb1⟩
  have C1 := hid (below_step C0.out hb1)
  have D1 := hid hb1
  clear hb1
  by_cases hel : termE sig l = 0
  · rw [hel]
    have HEl := hid hel
    rw [if_pos hel] at HE
    clear hel
    obtain ⟨x0, x1⟩ := HC.out w1 D1.out
    go_wp2_with fail
    refine (check_any sv _ sig r w1 (HS.out.kp (Kp.of_below C1.out)) (HR.out.kp (Kp.of_below C1.out)) (HT.out.below C1.out) h2).mono ?_
    rintro e w2 ⟨rfl, hb2⟩
    have C2 := hid (below_step C1.out hb2)
    have D2 := hid (below_step D1.out hb2)
    clear hb2 x0 x1
    by_cases her : termE sig r = 0
    · rw [her]
      rw [if_pos her] at HE
      clear her
      obtain ⟨x0, x1⟩ := HC.out w2 D2.out
      have hlp := row_posS (term_parts HEl.out).2
      obtain ⟨gl, ol, c, rfl, hc, hcx, _, _⟩ := (HL.out.kp (Kp.of_below C2.out)).at hlp
      rw [hc] at HE
      simp only [Option.getD_some] at HE
      rw [Nat.add_zero] at hcx
      by_cases hb1 : 512 < l.length
      · have hd1 : decide ((512 : Int) < (l.length : Int)) = true := by simpa using (show (512 : Int) < (l.length : Int) by omega)
        rw [if_pos (.inl hb1)] at HE
        go_wp2
        go_ret
        exact ⟨ret1i HE.out.symm, C2.out⟩
      · have hd1 : decide ((512 : Int) < (l.length : Int)) = false := by simpa using (show ¬ (512 : Int) < (l.length : Int) by omega)
        by_cases hb2 : 512 < r.length
        · have hd2 : decide ((512 : Int) < (r.length : Int)) = true := by simpa using (show (512 : Int) < (r.length : Int) by omega)
          rw [if_pos (.inr hb2)] at HE
          go_wp2
          go_ret
          exact ⟨ret1i HE.out.symm, C2.out⟩
        · have hd2 : decide ((512 : Int) < (r.length : Int)) = false := by simpa using (show ¬ (512 : Int) < (r.length : Int) by omega)
          rw [if_neg (by omega)] at HE
          by_cases h0 : c < 0
          · rw [if_pos h0] at HE
            have hd0 : decide (c < 0) = true := by simpa using h0
            clear hc
            go_wp2
            go_ret
            exact ⟨ret1i HE.out.symm, C2.out⟩
          · rw [if_neg h0] at HE
            have hd0 : decide (c < 0) = false := by simpa using h0
            clear hc
            go_wp2_with fail
            refine (hasFree_any _ _ l r w2 (HL.out.kp (Kp.of_below C2.out)) (HR.out.kp (Kp.of_below C2.out)) h1 h2).mono ?_
            rintro e w3 ⟨rfl, hb3⟩
            have C3 := hid (below_step C2.out hb3)
            clear hb3 x0 x1 hcx
            cases hf : freeB l r with
            | true =>
              rw [hf, if_pos rfl] at HE
              go_wp2
              go_ret
              exact ⟨ret1i HE.out.symm, C3.out⟩
            | false =>
              rw [hf, if_neg (by simp)] at HE
              go_wp2
              go_ret
              exact ⟨ret1i HE.out.symm, C3.out⟩
    · rw [if_neg her] at HE
      generalize termE sig r = T at her HE ⊢
      have hne : (T != 0) = true := by simpa using her
      go_wp2
      go_ret
      exact ⟨ret1i HE.out.symm, C2.out⟩
  · rw [if_neg hel] at HE
    generalize termE sig l = T at hel HE ⊢
    have hne : (T != 0) = true := by simpa using hel
    go_wp2
    go_ret
    exact ⟨ret1i HE.out.symm, C1.out⟩

/-- A rule at an address. -/
def EU (w : World) (g o : Nat) (r : Rl) : Prop := r.1.length * 8 ≤ 140737488351232 ∧ r.2.length * 8 ≤ 140737488351232 ∧ ∃ v1 v2, w.cell? ⟨g, o, none⟩ = some v1 ∧ w.cell? ⟨g, o + 1, none⟩ = some v2 ∧ Is w v1 r.1 ∧ Is w v2 r.2

theorem EU.kp {w w' : World} (hk : Kp w w') (g o : Nat) (r : Rl) (h : EU w g o r) : EU w' g o r := by
  obtain ⟨h1, h2, v1, v2, h3, h4, h5, h6⟩ := h
  exact ⟨h1, h2, v1, v2, hk.cell _ _ h3, hk.cell _ _ h4, h5.kp hk, h6.kp hk⟩

/-- A row of rules. -/
def RU (w : World) (v : Value) (rs : List Rl) : Prop := Row EU 2 w v rs

theorem RU.kp {w w' : World} {v : Value} {rs : List Rl} (h : RU w v rs) (hk : Kp w w') : RU w' v rs := Row.imp h hk.size (EU.kp hk)

theorem RU.at {w : World} {ao : Option Addr} {n cap : Nat} {rs : List Rl} (h : RU w (.slice ao n cap) rs) {k : Nat} (hk : k < rs.length) :
    ∃ g off l r a1 c1 a2 c2, ao = some ⟨g, off, none⟩ ∧ rs[k]? = some (l, r) ∧ w.cell? ⟨g, off + k * 2, none⟩ = some (.slice a1 l.length c1) ∧ w.cell? ⟨g, off + k * 2 + 1, none⟩ = some (.slice a2 r.length c2) ∧
      Is w (.slice a1 l.length c1) l ∧ Is w (.slice a2 r.length c2) r ∧ l.length * 8 ≤ 140737488351232 ∧ r.length * 8 ≤ 140737488351232 := by
  obtain ⟨ao', cap', hv, _, _, hx⟩ := Row.flat h
  simp only [Value.slice.injEq] at hv
  obtain ⟨rfl, rfl, rfl⟩ := hv
  obtain ⟨g, off, ⟨l, r⟩, rfl, hm, h1, h2, v1, v2, h3, h4, h5, h6⟩ := hx k hk
  obtain ⟨a1, c1, rfl, _⟩ := Row.flat h5
  obtain ⟨a2, c2, rfl, _⟩ := Row.flat h6
  exact ⟨g, off, l, r, a1, c1, a2, c2, rfl, hm, h3, h4, h5, h6, h1, h2⟩

/-- What is wrong with rules, and with which, from a place on. -/
def rulesGo (sig : List Sy) : Nat → List Rl → Int × Int
  | _, [] => (0, 0)
  | k, r :: rs => if ruleE sig r = 0 then rulesGo sig (k + 1) rs else (ruleE sig r, k)

/-- What is wrong with a system, and with which rule. -/
def sysE (sig : List Sy) (rs : List Rl) : Int × Int := if aheadE sig rs.length = 0 then rulesGo sig 0 rs else (aheadE sig rs.length, -1)

theorem ret2ii {a b c d : Int} (h : (a, c) = (b, d)) : Ending.returned (.tuple #[.int .i64 a, .int .i64 c]) = .returned (.tuple #[.int .i64 b, .int .i64 d]) := by cases h; rfl

set_option maxRecDepth 100000 in
set_option maxHeartbeats 1600000 in
theorem sysCheck_any (sv rv : Value) (sig : List Sy) (rs : List Rl) (w : World) (hs : Sg w sv sig) (hr : RU w rv rs) (hT : Tabs w) :
    Calls Tryz.prog 126 #[.agg #[sv, rv]] w fun e w' => e = .returned (.tuple #[.int .i64 (sysE sig rs).1, .int .i64 (sysE sig rs).2]) ∧ Below w.heap.size w w' := by
  obtain ⟨so, sc, rfl, hso, hsc, _⟩ := Row.flat hs
  obtain ⟨ro, rc, rfl, hro, hrc, _⟩ := Row.flat hr
  unfold maxLen at hsc hrc
  have HS := hid hs
  have HR := hid hr
  have HT := hid hT
  clear hs hr hT
  obtain ⟨w0, hw0⟩ : ∃ X, X = w.alloc (.cells #[.slice so sig.length sc, .slice ro rs.length rc] 64) := ⟨_, rfl⟩
  have C0 : Hid (Below w.heap.size w w0) := by rw [hw0]; exact below_alloc _
  have HC : Hid (∀ W, Below w0.heap.size w0 W → W.cell? ⟨w.heap.size, 0, none⟩ = some (.slice so sig.length sc) ∧ W.cell? ⟨w.heap.size, 1, none⟩ = some (.slice ro rs.length rc)) := fun W hW => by
    have hk := Kp.of_below hW
    rw [hw0] at hk
    exact ⟨hk.cell _ _ (cell_new rfl), hk.cell _ _ (cell_new rfl)⟩
  obtain ⟨E, hE⟩ : ∃ E, E = sysE sig rs := ⟨_, rfl⟩
  have HE := hid hE
  rw [← hE]
  clear hE
  unfold sysE at HE
  obtain ⟨x0, x1⟩ := HC.out w0 (Below.refl _ _)
  go_enter Tryz.func126, Tryz.ntmps126
  go_wp2_with fail
  rw [← hw0]
  clear hw0
  refine (checkAhead_any _ ro rs.length rc sig w0 (HS.out.kp (Kp.of_below C0.out)) (HT.out.below C0.out) (by omega)).mono ?_
  rintro e w1 ⟨rfl, hb1⟩
  have C1 := hid (below_step C0.out hb1)
  have D1 := hid hb1
  clear hb1 x0 x1
  by_cases hea : aheadE sig rs.length = 0
  · rw [hea]
    rw [if_pos hea] at HE
    clear hea
    obtain ⟨x0, x1⟩ := HC.out w1 D1.out
    go_wp2
    go_loopw [16] (fun iv wr => ∃ k : Nat, k ≤ rs.length ∧ iv = .int .i64 k ∧ rulesGo sig 0 rs = rulesGo sig k (rs.drop k) ∧ Below w0.heap.size w0 wr) (fun iv _ => rs.length - (intOf iv).toNat)
    case atStart => exact ⟨0, Nat.zero_le _, rfl, rfl, D1.out⟩
    case round =>
      obtain ⟨k, hk, rfl, hgo, hbl⟩ := hrel
      have HG := hid hgo
      have HB := hid hbl
      have CB := hid (below_step C0.out hbl)
      obtain ⟨z0, z1⟩ := HC.out wr hbl
      clear hgo hbl x0 x1
      by_cases hlt : k < rs.length
      · obtain ⟨g, off, l, r, a1, c1, a2, c2, rfl, hm, hc0, hc1, hi1, hi2, hl1, hl2⟩ := (HR.out.kp (Kp.of_below CB.out)).at hlt
        have HD : Hid (E = if ruleE sig (l, r) = 0 then rulesGo sig (k + 1) (rs.drop (k + 1)) else (ruleE sig (l, r), (k : Int))) := by
          show _ = _
          rw [HE.out, HG.out, drop_get hm]
          rfl
        have HI1 := hid hi1
        have HI2 := hid hi2
        have hgw : g < wr.heap.size := World.block_lt_of_cell? _ _ hc0
        have y0 := cell_old (o := .cells #[.slice a1 l.length c1, .slice a2 r.length c2] 41) z0
        obtain ⟨W, hW⟩ : ∃ X, X = wr.alloc (.cells #[.slice a1 l.length c1, .slice a2 r.length c2] 41) := ⟨_, rfl⟩
        have BW : Hid (Below wr.heap.size wr W) := by rw [hW]; exact below_alloc _
        clear hm hi1 hi2
        go_wp2_with fail
        rw [← hW]
        rw [← hW] at y0
        clear hW
        have CW := hid (below_step CB.out BW.out)
        refine (checkRule_any _ _ _ sig l r W (HS.out.kp (Kp.of_below CW.out)) (HI1.out.kp (Kp.of_below BW.out)) (HI2.out.kp (Kp.of_below BW.out)) (HT.out.below CW.out) hl1 hl2).mono ?_
        rintro e w3 ⟨rfl, hb3⟩
        have HB3 := hid (below_step HB.out (below_step BW.out hb3))
        clear hb3 y0 z0 z1 hc0 hc1
        by_cases her : ruleE sig (l, r) = 0
        · rw [her]
          have HN : Hid (rulesGo sig 0 rs = rulesGo sig (k + 1) (rs.drop (k + 1))) := by
            show _ = _
            rw [← HE.out, HD.out, if_pos her]
          clear her HD
          go_wp2
          go_roundw
          case rel => exact ⟨k + 1, hlt, by go_num, HN.out, HB3.out⟩
          case measure => simp only [intOf]; omega
        · have HN : Hid (E = (ruleE sig (l, r), (k : Int))) := by
            show _ = _
            rw [HD.out, if_neg her]
          generalize ruleE sig (l, r) = T at her HN ⊢
          have hne : (T != 0) = true := by simpa using her
          clear HD her
          go_wp2
          go_ret2
          exact ⟨ret2ii (a := T) (c := (k : Int)) (by rw [HN.out]), below_step C0.out HB3.out⟩
      · have HN : Hid (E = (0, 0)) := by
          show _ = _
          rw [HE.out, HG.out, List.drop_of_length_le (by omega)]
          rfl
        clear z0 z1
        go_wp2
        go_ret2
        exact ⟨ret2ii (a := 0) (c := 0) (by rw [HN.out]), CB.out⟩
  · rw [if_neg hea] at HE
    generalize aheadE sig rs.length = T at hea HE ⊢
    have hne : (T != 0) = true := by simpa using hea
    go_wp2
    go_ret2
    exact ⟨ret2ii (a := T) (c := -1) (by rw [HE.out]), C1.out⟩

/-- Whether a system is right. -/
def sysB (sig : List Sy) (rs : List Rl) : Bool := decide ((sysE sig rs).1 = 0)

end Go.Proofs.YtlaenbdlgpepkaaGreatDoor

/- The examples of layer 8: the system, and what comes out, plainly. -/
namespace Go.Proofs.YtlaenbdlgpepkaaGreatDoor
open Go.RowKit Go.Maps Go.BigFrame

def sumR0 : Rl := ([2, 0, -1], [-1])
def sumR1 : Rl := ([2, 1, -1, -2], [1, 2, -1, -2])

theorem heap_newg8 {w : World} {o : Obj} {g : Nat} (h : g = w.heap.size) : (w.alloc o).heap[g]? = some o := by
  subst h
  exact heap_alloc_new _ _

/-- Two rules in a block. -/
theorem ru_lit8 {W : World} {g : Nat} {a0 a1 a2 a3 : Option Addr} {n0 n1 n2 n3 c0 c1 c2 c3 : Nat} {p q r s : List Int} (h0 : W.cell? ⟨g, 0, none⟩ = some (.slice a0 n0 c0)) (h1 : W.cell? ⟨g, 1, none⟩ = some (.slice a1 n1 c1)) (h2 : W.cell? ⟨g, 2, none⟩ = some (.slice a2 n2 c2)) (h3 : W.cell? ⟨g, 3, none⟩ = some (.slice a3 n3 c3))
    (i0 : Is W (.slice a0 n0 c0) p) (i1 : Is W (.slice a1 n1 c1) q) (i2 : Is W (.slice a2 n2 c2) r) (i3 : Is W (.slice a3 n3 c3) s) (l0 : p.length ≤ 99) (l1 : q.length ≤ 99) (l2 : r.length ≤ 99) (l3 : s.length ≤ 99) : RU W (.slice (some ⟨g, 0, none⟩) 2 2) [(p, q), (r, s)] := by
  refine ⟨some ⟨g, 0, none⟩, 2, rfl, Nat.le_refl _, by unfold maxLen; omega, fun _ => ⟨g, 0, rfl, World.block_lt_of_cell? _ _ h0, fun k x hk => ?_⟩⟩
  match k, hk with
  | 0, hk =>
    cases hk
    exact ⟨by simp only; omega, by simp only; omega, _, _, h0, h1, i0, i1⟩
  | 1, hk =>
    cases hk
    exact ⟨by simp only; omega, by simp only; omega, _, _, h2, h3, i2, i3⟩
  | k + 2, hk => simp at hk

theorem results_one8 {P : Program} {fn : Func} {w : World} {tmps : Array Value} {t : Tmp} {ty : TypeId} {ad : Addr} {v : Value} (h : fn.results = #[.cell t ty]) (ht : tmps.getD t undef = .pointer (some ad)) (hl : (loadVar ty ad).run P w = .ok v w) : (results fn tmps).run P w = .ok v w := by
  have ht2 : tmps[t]?.getD undef = .pointer (some ad) := by simpa using ht
  simp [results, h, ht2, hl, asAddr]

theorem no_hit {sig : List Sy} {l t : List Int} (h : begB l t = false) : hitB sig l t = false := hitB_false fun h9 => by rw [hit_beg l t h9] at h; cases h

theorem hit0 : Hit sumS [2, 0, -1] [2, 0, 0] := by
  refine ⟨fun n => if n = 0 then some [0] else none, fun n u h => ?_, fun c hc h0 => ?_, by decide⟩
  · simp only at h
    split at h
    · cases h
      kernel_rfl
    · cases h
  · simp only [List.mem_cons, List.not_mem_nil, or_false] at hc
    rcases hc with rfl | rfl | rfl
    · omega
    · omega
    · decide

theorem rt1 : Rt sumS (fun n => if n = 0 ∨ n = 1 then some [0] else none) := fun n u h => by
  simp only at h
  split at h
  · cases h
    kernel_rfl
  · cases h

theorem sm1 : Sm (fun n => if n = 0 ∨ n = 1 then some [0] else none) [2, 1, -1, -2] [2, 1, 0, 0] := by
  refine ⟨fun c hc h0 => ?_, by decide⟩
  simp only [List.mem_cons, List.not_mem_nil, or_false] at hc
  rcases hc with rfl | rfl | rfl | rfl
  · omega
  · omega
  · decide
  · decide

theorem sh8_step1 : stepE sumS [sumR0, sumR1] [2, 2, 0, 0, 2, 0, 0] = 0 := by kernel_rfl
theorem sh8_step2 : stepE sumS [sumR0, sumR1] [2, 0, 2, 1, 0, 0] = 0 := by kernel_rfl
theorem sh8_step3 : stepE sumS [sumR0, sumR1] [1, 0] = 0 := by kernel_rfl
theorem sh8_step4 : stepE sumS [sumR0, sumR1] [2, 1, 0, 0] = 0 := by kernel_rfl

theorem red_none {part : List Int} {x k : Nat} (h0 : begB [2, 0, -1] part = false) (h1 : begB [2, 1, -1, -2] part = false) : redL sumS part x k [sumR0, sumR1] = [] := by
  unfold redL redL redL sumR0 sumR1
  simp only
  rw [no_hit h0, no_hit h1]
  rfl

theorem red_zero {x : Nat} : redL sumS [2, 0, 0] x 0 [sumR0, sumR1] = [((x : Int), 0)] := by
  unfold redL redL redL sumR0 sumR1
  simp only
  rw [hitB_true hit0, no_hit (show begB [2, 1, -1, -2] [2, 0, 0] = false by decide)]
  rfl

theorem sh8_all : allR sumS [sumR0, sumR1] [2, 2, 0, 0, 2, 0, 0] = [(1, 0), (4, 0)] := by
  unfold allR
  rw [if_pos sh8_step1]
  unfold allL
  have e0 : subL sumS [2, 2, 0, 0, 2, 0, 0] ((0 : Nat) : Int) = [2, 2, 0, 0, 2, 0, 0] := by kernel_rfl
  have e1 : subL sumS [2, 2, 0, 0, 2, 0, 0] ((1 : Nat) : Int) = [2, 0, 0] := by kernel_rfl
  have e2 : subL sumS [2, 2, 0, 0, 2, 0, 0] ((2 : Nat) : Int) = [0] := by kernel_rfl
  have e3 : subL sumS [2, 2, 0, 0, 2, 0, 0] ((3 : Nat) : Int) = [0] := by kernel_rfl
  have e4 : subL sumS [2, 2, 0, 0, 2, 0, 0] ((4 : Nat) : Int) = [2, 0, 0] := by kernel_rfl
  have e5 : subL sumS [2, 2, 0, 0, 2, 0, 0] ((5 : Nat) : Int) = [0] := by kernel_rfl
  have e6 : subL sumS [2, 2, 0, 0, 2, 0, 0] ((6 : Nat) : Int) = [0] := by kernel_rfl
  show ([0, 1, 2, 3, 4, 5, 6] : List Nat).flatMap (fun (x : Nat) => redL sumS (subL sumS [2, 2, 0, 0, 2, 0, 0] (x : Int)) x 0 [sumR0, sumR1]) = _
  simp only [List.flatMap_cons, List.flatMap_nil]
  rw [e0, e1, e2, e3, e4, e5, e6, red_zero, red_zero, red_none (by decide) (by decide), red_none (by decide) (by decide), red_none (by decide) (by decide), red_none (by decide) (by decide), red_none (by decide) (by decide)]
  rfl

theorem pv_leaf (a : Nat) : Pv sumS [0] a [(a, a + 1)] := Pv.mk (sig := sumS) 0 [] a [] (by decide) (by kernel_rfl) rfl (by kernel_rfl) (fun i u v h => by simp at h)

theorem pv_s (a : Nat) : Pv sumS [1, 0] a [(a + 1, a + 2), (a, a + 2)] := Pv.mk (sig := sumS) 1 [[0]] a [[(a + 1, a + 2)]] (by decide) (by kernel_rfl) rfl (by kernel_rfl) (fun i u v hu hv => by
  match i, hu, hv with
  | 0, hu, hv =>
    cases hu
    cases hv
    exact pv_leaf (a + 1)
  | i + 1, hu, _ => simp at hu)

theorem pv_p (a : Nat) : Pv sumS [2, 1, 0, 0] a [(a + 2, a + 3), (a + 1, a + 3), (a + 3, a + 4), (a, a + 4)] := Pv.mk (sig := sumS) 2 [[1, 0], [0]] a [[(a + 2, a + 3), (a + 1, a + 3)], [(a + 3, a + 4)]] (by decide) (by kernel_rfl) rfl (by kernel_rfl) (fun i u v hu hv => by
  match i, hu, hv with
  | 0, hu, hv =>
    cases hu
    cases hv
    exact pv_s (a + 1)
  | 1, hu, hv =>
    cases hu
    cases hv
    exact pv_leaf (a + 3)
  | i + 2, hu, _ => simp at hu)

theorem pv_t : Pv sumS [2, 0, 2, 1, 0, 0] 0 [(1, 2), (4, 5), (3, 5), (5, 6), (2, 6), (0, 6)] := Pv.mk (sig := sumS) 2 [[0], [2, 1, 0, 0]] 0 [[(1, 2)], [(4, 5), (3, 5), (5, 6), (2, 6)]] (by decide) (by kernel_rfl) rfl (by kernel_rfl) (fun i u v hu hv => by
  match i, hu, hv with
  | 0, hu, hv =>
    cases hu
    cases hv
    exact pv_leaf 1
  | 1, hu, hv =>
    cases hu
    cases hv
    exact pv_p 2
  | i + 2, hu, _ => simp at hu)

theorem idx_none {part : List Int} {k : Nat} (h0 : begB [2, 0, -1] part = false) (h1 : begB [2, 1, -1, -2] part = false) : idxL sumS part k [sumR0, sumR1] = -1 := by
  unfold idxL idxL idxL sumR0 sumR1
  simp only
  rw [no_hit h0, no_hit h1]
  rfl

theorem idx_one : idxL sumS [2, 1, 0, 0] 0 [sumR0, sumR1] = 1 := by
  unfold idxL idxL idxL sumR0 sumR1
  simp only
  rw [no_hit (show begB [2, 0, -1] [2, 1, 0, 0] = false by decide), hitB_true ⟨_, rt1, sm1⟩]
  rfl

theorem stop_none {t : List Int} {v : Nat × Nat} (h0 : begB [2, 0, -1] (partV t v) = false) (h1 : begB [2, 1, -1, -2] (partV t v) = false) : stopF sumS [sumR0, sumR1] t v = false := by
  unfold stopF
  rw [idx_none h0 h1]
  rfl

theorem part_p : partV [2, 0, 2, 1, 0, 0] (2, 6) = [2, 1, 0, 0] := by kernel_rfl

theorem stop_p : stopF sumS [sumR0, sumR1] [2, 0, 2, 1, 0, 0] (2, 6) = true := by
  unfold stopF
  rw [part_p, idx_one]
  rfl

theorem sh8_first : fstV sumS [sumR0, sumR1] [2, 0, 2, 1, 0, 0] (upto (stopF sumS [sumR0, sumR1] [2, 0, 2, 1, 0, 0]) [(1, 2), (4, 5), (3, 5), (5, 6), (2, 6), (0, 6)]) = (2, 1) ∧ ([(1, 2), (4, 5), (3, 5), (5, 6), (2, 6), (0, 6)] : List (Nat × Nat)).any (stopF sumS [sumR0, sumR1] [2, 0, 2, 1, 0, 0]) = true := by
  have n1 : stopF sumS [sumR0, sumR1] [2, 0, 2, 1, 0, 0] (1, 2) = false := stop_none (by decide) (by decide)
  have n2 : stopF sumS [sumR0, sumR1] [2, 0, 2, 1, 0, 0] (4, 5) = false := stop_none (by decide) (by decide)
  have n3 : stopF sumS [sumR0, sumR1] [2, 0, 2, 1, 0, 0] (3, 5) = false := stop_none (by decide) (by decide)
  have n4 : stopF sumS [sumR0, sumR1] [2, 0, 2, 1, 0, 0] (5, 6) = false := stop_none (by decide) (by decide)
  constructor
  · simp only [upto, n1, n2, n3, n4, stop_p]
    show fstV _ _ _ ([(1, 2), (4, 5), (3, 5), (5, 6)] ++ [(2, 6)]) = _
    rw [fstV_snoc, part_p, idx_one]
    rfl
  · simp only [List.any_cons, n1, n2, n3, n4, stop_p, Bool.false_or, Bool.true_or]

theorem sh8_second : ([(1, 2), (0, 2)] : List (Nat × Nat)).any (stopF sumS [sumR0, sumR1] [1, 0]) = false := by
  have n1 : stopF sumS [sumR0, sumR1] [1, 0] (1, 2) = false := stop_none (by decide) (by decide)
  have n2 : stopF sumS [sumR0, sumR1] [1, 0] (0, 2) = false := stop_none (by decide) (by decide)
  simp only [List.any_cons, n1, n2, List.any_nil, Bool.false_or]

theorem binds1 : bindsL (fun n => if n = 0 ∨ n = 1 then some [0] else none) [2, 1, -1, -2] = [(0, [0]), (1, [0])] := by
  unfold bindsL
  have h2 : varsL [2, 1, -1, -2] = [0, 1] := by kernel_rfl
  have h3 : sortI [0, 1] = [0, 1] := by
    unfold sortI
    exact List.mergeSort_of_pairwise (by simp)
  rw [h2, h3]
  decide

theorem sh8_do1 : doR sumS [sumR0, sumR1] [2, 1, 0, 0] 0 1 = ([1, 2, 0, 0], 0) := by
  unfold doR
  have hp : placeE sumS [2, 1, 0, 0] 0 = 0 := by kernel_rfl
  have hs : subL sumS [2, 1, 0, 0] 0 = [2, 1, 0, 0] := by kernel_rfl
  rw [if_pos sh8_step4, if_pos hp, if_neg (by decide)]
  show doK sumS [2, 1, 0, 0] 0 sumR1 = _
  unfold doK sumR1
  simp only
  rw [hs, hitB_true ⟨_, rt1, sm1⟩, if_pos rfl, hitBd_eq rt1 sm1, binds1]
  have ha : applyE sumS [(0, [0]), (1, [0])] [1, 2, -1, -2] = 0 := by kernel_rfl
  have hl : applyL sumS [(0, [0]), (1, [0])] [1, 2, -1, -2] = [1, 2, 0, 0] := by kernel_rfl
  rw [if_pos ha, hl]
  have h1 : replL sumS [2, 1, 0, 0] 0 [1, 2, 0, 0] = [1, 2, 0, 0] := by kernel_rfl
  have h2 : replE sumS [2, 1, 0, 0] 0 [1, 2, 0, 0] = 0 := by kernel_rfl
  rw [h1, h2]

theorem sh8_do2 : doR sumS [sumR0, sumR1] [2, 1, 0, 0] 0 0 = ([], 80) := by
  unfold doR
  have hp : placeE sumS [2, 1, 0, 0] 0 = 0 := by kernel_rfl
  have hs : subL sumS [2, 1, 0, 0] 0 = [2, 1, 0, 0] := by kernel_rfl
  rw [if_pos sh8_step4, if_pos hp, if_neg (by decide)]
  show doK sumS [2, 1, 0, 0] 0 sumR0 = _
  unfold doK sumR0
  simp only
  rw [hs, no_hit (by decide), if_neg (by simp)]

theorem sh8_do3 : doR sumS [sumR0, sumR1] [2, 1, 0, 0] 4 1 = ([], 33) := by
  unfold doR
  have hp : placeE sumS [2, 1, 0, 0] 4 = 33 := by kernel_rfl
  rw [if_pos sh8_step4, hp, if_neg (by decide)]

theorem sh8_do4 : doR sumS [sumR0, sumR1] [2, 1, 0, 0] 0 2 = ([], 1) := by
  unfold doR
  have hp : placeE sumS [2, 1, 0, 0] 0 = 0 := by kernel_rfl
  rw [if_pos sh8_step4, if_pos hp, if_neg (by decide)]
  rfl

end Go.Proofs.YtlaenbdlgpepkaaGreatDoor
