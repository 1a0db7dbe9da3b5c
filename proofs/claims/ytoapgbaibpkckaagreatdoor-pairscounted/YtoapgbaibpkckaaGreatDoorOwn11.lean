/- Texts of the proof, one behind the other. -/
import Derived.Test.YtoapgbaibpkckaaGreatDoorOwn9
import Derived.Test.YtoapgbaibpkckaaGreatDoorOwn10
import Derived.Test.YtoapgbaibpkckaaGreatDoorOwn4
/- count of package unify walked. -/
namespace Go.Proofs.YtoapgbaibpkckaaGreatDoor
open Go.RowKit Go.Maps Go.BigFrame

theorem snoc7 {α : Type} (l : List α) : l = [] ∨ ∃ xs x, l = xs ++ [x] := by
  rcases List.eq_nil_or_concat l with h | ⟨xs, x, h⟩
  · exact .inl h
  · exact .inr ⟨xs, x, by rw [h, List.concat_eq_append]⟩

set_option maxRecDepth 100000 in
set_option maxHeartbeats 3200000 in
theorem uCount_any {sig : List Sy} (har : ArOk sig) {w : World} {B T : Nat} {M : List Nm} {into : Nat → Option Nat} {face : Nat → Nat} {cnt : Nat → Int} {root rk : Nat → Nat} {r : Nat} {mr : Nm} (hL : NdOk sig (M.map Nm.nd)) (hok : ClOk (M.map Nm.nd) root face) (hn : M.length ≤ 4194304) (hlow : T ≤ w.heap.size) (hb : Bd6 w B T M into face cnt) (hf : Fr6 M.length into root rk) (hci : CI M root face r cnt [r]) (hmr : M[r]? = some mr) :
    Calls Tryz.prog 117 #[.pointer (some ⟨mr.cls, 0, none⟩)] w fun e w' => ∃ ok into' cnt', e = .returned (.bool ok) ∧ Bd6 w' B T M into' face cnt' ∧ Fr6 M.length into' root rk ∧ Ch6 M w w' ∧ (ok = false → ∃ c, c < M.length ∧ root c = c ∧ Rch (M.map Nm.nd) root face c c) ∧ (ok = true → CI M root face r cnt' []) := by
  have hlen : (M.map Nm.nd).length = M.length := by rw [List.length_map]
  obtain ⟨hwf, hsym⟩ := nd_wf har hL
  have hrl : ∀ i, i < M.length → root i < M.length := fun i hi => by have := hok.lt i (by omega); omega
  have hfl : ∀ i, i < M.length → root i = i → face i < M.length := fun i hi hr => by have := hok.face_lt i (by omega); rw [hr] at this; omega
  have HB := hid hb
  have HF := hid hf
  have HCI := hid hci
  have HLo := hid hlow
  have HL := hid hL
  have HOk := hid hok
  have HWf := hid hwf
  have HRl := hid hrl
  have HFl := hid hfl
  have HMr := hid hmr
  have hcw : ∀ m ∈ M, m.cls < w.heap.size := fun m hm => Nat.lt_of_lt_of_le (hb.low m hm).1.2 hlow
  have HCw := hid hcw
  clear hb hf hci hlow hL hok hwf hsym hrl hfl hmr har hlen hcw
  go_enter Tryz.func117, Tryz.ntmps117
  go_wp2
  go_loopg [3] (M.length * 1001 + 1) (fun k v wr => ∃ (O : List Nat) (into' : Nat → Option Nat) (cnt' : Nat → Int), OwC6 wr w.heap.size M v O ∧ Bd6 wr B T M into' face cnt' ∧ Fr6 M.length into' root rk ∧ CI M root face r cnt' O ∧ Ch6 M w wr ∧ nZero M.length cnt' * 1001 + O.length ≤ k ∧ k ≤ M.length * 1001 + 1)
  case atStart =>
    have hbA : Below w.heap.size w (w.alloc (.cells #[.pointer (some ⟨mr.cls, 0, none⟩)] 139)) := below_alloc _
    refine ⟨[r], into, cnt, ?_, HB.out.later hbA, HF.out, HCI.out, Ch6.of_below hbA, ?_, Nat.le_refl _⟩
    · refine ⟨rfl, .inr ⟨w.heap.size, 1, #[.pointer (some ⟨mr.cls, 0, none⟩)], rfl, Nat.le_refl _, heap_alloc_new _ _, Nat.le_refl _, by simp [maxLen], rfl, ?_⟩⟩
      simp only [List.map_cons, List.map_nil]
      rw [clV_eq HMr.out]
      rfl
    · have := nZero_le M.length cnt
      simp only [List.length_cons, List.length_nil]
      omega
  case round =>
    obtain ⟨O, into', cnt', how, hb', hf', hc', hch, hk1, hk2⟩ := hrel
    have HB' := hid hb'
    have HF' := hid hf'
    have HC' := hid hc'
    have HCh := hid hch
    rcases snoc7 O with rfl | ⟨Q, q, rfl⟩
    · obtain ⟨ao, cp, rfl⟩ : ∃ ao cp, u3 = .slice ao 0 cp := by
        rcases how.2 with ⟨h8, _⟩ | ⟨g8, c8, _, h8, _⟩
        · exact ⟨_, _, h8⟩
        · exact ⟨_, _, h8⟩
      clear how hb' hf' hc' hch hk1 hk2
      go_wp2
      go_ret
      exact ⟨true, into', cnt', rfl, HB'.out, HF'.out, HCh.out, fun h => (by cases h), fun _ => HC'.out⟩
    · obtain ⟨hql, hqr⟩ := hc'.el q (by simp)
      obtain ⟨mq, hmq⟩ : ∃ m, M[q]? = some m := ⟨_, List.getElem?_eq_getElem hql⟩
      obtain ⟨g, cp, hv, hge, hcp1, hcp2, hca⟩ := own_last6 how (k := Q.length) (x := q) (by simp)
      have hll : (Q ++ [q]).length = Q.length + 1 := by simp
      rw [hll] at hv hcp1
      subst hv
      have hct := own_cut6 (k := Q.length) (by rw [hll]; exact how) (by rw [hll]; omega)
      rw [List.take_left] at hct
      have HOw : Hid (OwC6 wr w.heap.size M (.slice (some ⟨g, 0, none⟩) (Q.length + 1) cp) (Q ++ [q])) := by rw [← hll]; rw [hll]; exact how
      obtain ⟨N, hN⟩ : ∃ N, N = Q.length := ⟨_, rfl⟩
      rw [← hN] at hca hct hcp1 HOw ⊢
      have HCt := hid hct
      have HMq := hid hmq
      have HN := hid hN
      have hNb : N ≤ 4294967296 := by rw [hN]; rw [hll] at hk1; omega
      have hw1 : IntKind.i64.wrap ((N : Int) + 1 - 1) = (N : Int) := by rw [IntWalk.i64_in _ ⟨by omega, by omega⟩]; omega
      have hw1' : IntKind.i64.wrap (N : Int) = (N : Int) := IntWalk.i64_in _ ⟨by omega, by omega⟩
      have hxc : N ≤ cp := by omega
      rw [clV_eq hmq] at hca
      obtain ⟨k9, hk9, _, _, _, x3⟩ := hb'.clc hmq
      have HQl := hid hql
      have HQr := hid hqr
      have HK1 : Hid (nZero M.length cnt' * 1001 + (Q.length + 1) ≤ gk) := by rw [hll] at hk1; exact hk1
      have HK2 := hid hk2
      have HFq := hid (HFl.out q hql hqr)
      by_cases h0 : cnt' q = 0
      · rw [h0] at x3
        have f3 : wr.frozen? ⟨mq.cls, 3, none⟩ = false := frozen_of_row _ _ _ _ _ hk9
        obtain ⟨W1, hW1⟩ : ∃ X, X = wr.setCell ⟨mq.cls, 3, none⟩ (.int .i64 (-1)) := ⟨_, rfl⟩
        obtain ⟨hb1, hc1⟩ := hb'.put hmq (o := into' q) (f := face q) (n := -1) (w' := W1) (by rw [hW1]; exact set_grown _ _ _ _) ⟨k9, by rw [hW1]; exact heap_setCell_same _ _ _ _ _ _ hk9⟩
        rw [if_self6, if_self6] at hb1
        have HC1 := hid (hch.trans hc1)
        have HO1 : Hid (OwC6 W1 w.heap.size M (.slice (some ⟨g, 0, none⟩) (N + 1) cp) (Q ++ [q])) := own_ch6 HOw.out hc1 HCw.out
        have HPa := hid (parts_any hb1 hf' (Nat.le_trans HLo.out (hch.trans hc1).size) HWf.out hmq HFq.out)
        obtain ⟨ps, hps⟩ : ∃ ps, ps = ptsN M root (face q) := ⟨_, rfl⟩
        rw [← hps] at HPa
        have HPs := hid hps
        obtain ⟨hpl, hpn⟩ := ptsN_lt HWf.out HRl.out (f := face q)
        rw [← hps] at hpl hpn
        have HPl := hid hpl
        have H0 := hid h0
        obtain ⟨cnt1, hcnt1⟩ : ∃ c : Nat → Int, c = fun j => if j = q then -1 else cnt' j := ⟨_, rfl⟩
        rw [← hcnt1] at HPa
        have HCn1 := hid hcnt1
        clear how hb' hf' hc' hch hk1 hk2 hll hct hmq hk9 hb1 hc1 hps hpl h0 hcnt1 hN hql hqr
        go_upto_region 8 with fail
        rw [← hW1]
        clear hW1 x3 f3 hca hw1 hw1'
        go_wp2_with fail
        refine HPa.out.mono ?_
        rintro e w2 ⟨v2, into2, rfl, o2, hb2, hf2, hc2⟩
        obtain ⟨ao, cap, hv2, hcap1, hcap2⟩ := o2.shape
        subst hv2
        unfold maxLen at hcap2
        have HO2 := hid o2
        have HB2 := hid hb2
        have HF2 := hid hf2
        have HC2 := hid (HC1.out.trans hc2)
        have HV2 : Hid (OwC6 w2 w.heap.size M (.slice (some ⟨g, 0, none⟩) (N + 1) cp) (Q ++ [q])) := own_ch6 HO1.out hc2 HCw.out
        have HW1s := hid HC1.out.size
        have HS12 := hid hc2.size
        have HNb : Hid (∀ j, Value.ownBlock (.slice (some ⟨g, 0, none⟩) (N + 1) cp) = some j → Value.ownBlock (.slice ao ps.length cap) ≠ some j) := fun j hj e => by
          have h1 := own_blk_lt HO1.out hj
          have h2 := own_blk HO2.out e
          omega
        clear o2 hb2 hf2 hc2 HPa HO1
        go_wp2
        go_loopw [3, 36] (fun v kv wy => ∃ k : Nat, k ≤ ps.length ∧ kv = .int .i64 k ∧ OwC6 wy w.heap.size M v (Q ++ [q] ++ ps.take k) ∧ OwC6 wy W1.heap.size M (.slice ao ps.length cap) ps ∧ Bd6 wy B T M into2 face cnt1 ∧ Ch6 M w wy ∧ W1.heap.size ≤ wy.heap.size ∧ (∀ j, v.ownBlock = some j → Value.ownBlock (.slice ao ps.length cap) ≠ some j) ∧ ∀ d ∈ ps.take k, cnt1 d ≠ -1) (fun _ kv _ => ps.length - (intOf kv).toNat)
        case atStart => exact ⟨0, Nat.zero_le _, rfl, by rw [List.take_zero, List.append_nil]; exact HV2.out, HO2.out, HB2.out, HC2.out, HS12.out, HNb.out, fun d hd => (by cases hd)⟩
        case round =>
          obtain ⟨k, hk, rfl, hov, hop, hby, hcy, hsy, hnb, hnm⟩ := hrel
          have HOv := hid hov
          have HOp := hid hop
          have HBy := hid hby
          have HCy := hid hcy
          have HNb2 := hid hnb
          have HNm := hid hnm
          by_cases hlt : k < ps.length
          · have hdk : decide ((k : Int) < (ps.length : Int)) = true := by simpa using hlt
            obtain ⟨p, hpk⟩ : ∃ p, ps[k]? = some p := ⟨_, List.getElem?_eq_getElem hlt⟩
            have hpm := List.mem_of_getElem? hpk
            obtain ⟨mp, hmp⟩ : ∃ m, M[p]? = some m := ⟨_, List.getElem?_eq_getElem (HPl.out p hpm)⟩
            obtain ⟨g2, cp2, hv, hge2, hcl1, hcl2, hcell⟩ := own_last6 hop hpk
            simp only [Value.slice.injEq] at hv
            obtain ⟨rfl, _, rfl⟩ := hv
            rw [clV_eq hmp] at hcell
            obtain ⟨kp, _, _, _, _, q3⟩ := hby.clc hmp
            obtain ⟨ao3, cap3, hv3, hcp31, hcp32⟩ := hov.shape
            have hlen3 : (Q ++ [q] ++ ps.take k).length = N + 1 + k := by rw [List.length_append, List.length_append, List.length_take, List.length_singleton, HN.out]; omega
            rw [hlen3] at hv3 hcp31
            subst hv3
            unfold maxLen at hcp32
            by_cases hm : cnt1 p = -1
            · rw [hm] at q3
              have HCi : Hid (∃ c, c < M.length ∧ root c = c ∧ Rch (M.map Nm.nd) root face c c) := ci_circle HL.out HOk.out HC'.out (d := p) (by rw [← HPs.out]; exact hpm) (by rw [HCn1.out] at hm; exact hm)
              clear hov hop hby hcy hnb hnm hpk hpm hmp hlen3 hm
              go_wp2
              go_ret
              exact ⟨false, into2, cnt1, rfl, HBy.out, HF2.out, HCy.out, fun _ => HCi.out, fun h => (by cases h)⟩
            · have hmb : (cnt1 p == -1) = false := by rw [beq_eq_false_iff_ne]; exact hm
              obtain ⟨WA, hWA⟩ : ∃ X, X = wr.alloc (.cells #[.pointer (some ⟨mp.cls, 0, none⟩)] 139) := ⟨_, rfl⟩
              have bA : Below wr.heap.size wr WA := by rw [hWA]; exact below_alloc _
              obtain ⟨v5, w5, hr5, o5, g5, d5⟩ := join_cls6 177 (ao := some ⟨wr.heap.size, 0, none⟩) (cap := 1) (ys := [p]) (own_ch6 hov (Ch6.of_below (M := M) bA) HCw.out) (.inr ⟨wr.heap.size, 0, rfl, fun j y hj => by
                match j, hj with
                | 0, hj =>
                  cases hj
                  rw [clV_eq hmp, hWA]
                  exact cell_new rfl
                | j + 1, hj => simp at hj⟩) (Nat.le_trans hcy.size bA.size) (by rw [hlen3]; simp only [List.length_cons, List.length_nil]; omega)
              have hnx : Q ++ [q] ++ ps.take (k + 1) = (Q ++ [q] ++ ps.take k) ++ [p] := by rw [take_get hpk, List.append_assoc (Q ++ [q])]
              rw [← hnx] at o5
              have hB5 : ∀ b, b < w.heap.size → w5.heap[b]? = wr.heap[b]? := fun b hb9 => by
                refine (g5.block b (Nat.lt_of_lt_of_le hb9 (Nat.le_trans hcy.size bA.size)) (fun e9 => ?_)).trans (bA.block b (Nat.lt_of_lt_of_le hb9 hcy.size))
                have := own_blk hov e9.symm
                omega
              have hpb : ∀ j, Value.ownBlock (.slice (some ⟨g2, 0, none⟩) ps.length cap) = some j → j < wr.heap.size := fun j hj => own_blk_lt hop hj
              have HO5p : Hid (OwC6 w5 W1.heap.size M (.slice (some ⟨g2, 0, none⟩) ps.length cap) ps) := own_grown6 (own_ch6 hop (Ch6.of_below (M := M) bA) (fun m hm9 => Nat.lt_of_lt_of_le (HCw.out m hm9) HW1s.out)) g5 (.inr fun e => by
                cases h9 : Value.ownBlock (.slice ao3 (N + 1 + k) cap3) with
                | none => rw [h9] at e; cases e
                | some j => exact hnb j h9 (e.trans h9))
              have HB5 := hid (hby.keep fun b hb9 => hB5 b (Nat.lt_of_lt_of_le hb9 HLo.out))
              have HC5 : Hid (Ch6 M w w5) := ⟨(g5.os.trans bA.os).trans hcy.os, (g5.tape.trans bA.tape).trans hcy.tape, (g5.output.trans bA.output).trans hcy.output, Nat.le_trans hcy.size (Nat.le_trans bA.size g5.size), fun b hb9 hm9 => (hB5 b hb9).trans (hcy.block b hb9 hm9)⟩
              have HS5 : Hid (W1.heap.size ≤ w5.heap.size) := Nat.le_trans hsy (Nat.le_trans bA.size g5.size)
              have HN5 : Hid (∀ j, v5.ownBlock = some j → Value.ownBlock (.slice (some ⟨g2, 0, none⟩) ps.length cap) ≠ some j) := fun j hj e => by
                rcases d5 with d5 | d5
                · exact hnb j (d5.symm.trans hj) e
                · rw [d5] at hj
                  have := hpb j e
                  have h8 := bA.size
                  cases hj
                  omega
              have HM5 : Hid (∀ d ∈ ps.take (k + 1), cnt1 d ≠ -1) := fun d hd => by
                rw [take_get hpk] at hd
                rcases List.mem_append.1 hd with hd | hd
                · exact hnm d hd
                · rw [List.mem_singleton] at hd
                  subst hd
                  exact hm
              have HR5 := hid hr5
              have HO5 := hid o5
              clear hov hop hby hcy hnb hnm hpk hpm hmp hlen3 hm hr5 o5 g5 d5 hnx hB5 hpb bA
              go_wp2_with (first
                | (rw [← hWA]; at_builtin; refine wpList_append_run rfl _ _ _ rfl _ _ rfl rfl HR5.out ?_))
              go_roundw
              case rel => exact ⟨k + 1, hlt, by go_num, HO5.out, HO5p.out, HB5.out, HC5.out, HS5.out, HN5.out, HM5.out⟩
              case measure => simp [intOf]; omega
          · have hdk : decide ((k : Int) < (ps.length : Int)) = false := by simpa using (show ¬ (k : Int) < (ps.length : Int) by omega)
            have hke : ps.take k = ps := List.take_of_length_le (by omega)
            rw [hke] at HOv HNm
            have HCi2 : Hid (CI M root face r cnt1 (Q ++ [q] ++ ps)) := by
              have h9 := ci_push HL.out HOk.out HC'.out H0.out (fun d hd => by have h8 := HNm.out d (by rw [HPs.out]; exact hd); rw [HCn1.out] at h8; exact h8)
              rw [← HPs.out, ← HCn1.out] at h9
              exact h9
            have HNz : Hid (nZero M.length cnt1 < nZero M.length cnt') := by
              have h9 := nZero_mark (n := M.length) HQl.out H0.out
              rw [← HCn1.out] at h9
              exact h9
            clear hov hop hby hcy hnb hnm hke
            go_wp2
            go_roundg (nZero M.length cnt1 * 1001 + (Q ++ [q] ++ ps).length)
            case measure => have h1 := HK1.out; have h2 := HNz.out; rw [List.length_append, List.length_append, List.length_singleton]; omega
            case rel => exact ⟨Q ++ [q] ++ ps, into2, cnt1, HOv.out, HBy.out, HF2.out, HCi2.out, HCy.out, Nat.le_refl _, by have h1 := HK1.out; have h2 := HNz.out; have h3 := HK2.out; rw [List.length_append, List.length_append, List.length_singleton]; omega⟩
      · have hne0 : (cnt' q != 0) = true := by rw [bne_iff_ne]; exact h0
        have HPt : Hid (cnt' q = -1 → ∀ p ∈ ptsN M root (face q), p ≠ q ∧ 0 ≤ cnt' p ∧ cnt' p ≤ 513) := fun h1 p hp => by
          obtain ⟨a1, a2⟩ := ci_parts hc' h1 p (pts_iff.1 hp)
          have hpl := (ptsN_lt HWf.out HRl.out (f := face q)).1 p hp
          have hpr : root p = p := by
            obtain ⟨s, xs, x, e1, e2, rfl⟩ := pts_iff.1 hp
            exact HOk.out.idem x (Nat.lt_trans (HL.out.ahead _ _ _ e1 x e2) (List.getElem?_eq_some_iff.1 e1).1)
          exact ⟨a1, by omega, (ci_pos hc' hpl hpr).1⟩
        have HFi := hid (finish_any hb' hf' (Nat.le_trans HLo.out hch.size) HWf.out HRl.out hmq HFq.out HPt.out)
        have H0 := hid h0
        clear how hb' hf' hc' hch hk1 hk2 hll hct hmq hk9 h0 hN hql hqr
        go_wp2_with fail
        refine HFi.out.mono ?_
        rintro e w2 ⟨rfl, into2, hb2, hf2, hc2⟩
        have HO2 : Hid (OwC6 w2 w.heap.size M (.slice (some ⟨g, 0, none⟩) N cp) Q) := own_ch6 HCt.out hc2 HCw.out
        have HC2 := hid (HCh.out.trans hc2)
        have HF2 := hid hf2
        have HNew : Hid (∃ cnt2, Bd6 w2 B T M into2 face cnt2 ∧ CI M root face r cnt2 Q ∧ nZero M.length cnt2 ≤ nZero M.length cnt') := by
          by_cases h1 : cnt' q = -1
          · rw [if_pos h1] at hb2
            have hci2 := ci_fin HL.out HOk.out HC'.out h1
            refine ⟨_, hb2, hci2, nZero_less ?_⟩
            have := (sumC_bnd (cnt := cnt') (ps := ptsN M root (face q)) (fun p hp => ⟨(HPt.out h1 p hp).2.1, (HPt.out h1 p hp).2.2⟩)).1
            omega
          · rw [if_neg h1, if_self6] at hb2
            exact ⟨cnt', hb2, ci_pop HC'.out H0.out h1, Nat.le_refl _⟩
        clear hb2 hf2 hc2 HFi hca x3 hw1 hw1' hne0
        go_wp2
        obtain ⟨cnt2, n1, n2, n3⟩ := HNew.out
        go_roundg (nZero M.length cnt2 * 1001 + Q.length)
        case measure => have := HK1.out; omega
        case rel => exact ⟨Q, into2, cnt2, by rw [← HN.out] at *; exact HO2.out, n1, HF2.out, n2, HC2.out, Nat.le_refl _, by have h1 := HK1.out; have h2 := HK2.out; omega⟩

end Go.Proofs.YtoapgbaibpkckaaGreatDoor

/- New nodes of package unify: newClass, newVariable, newApplication, variableOf walked. -/
namespace Go.Proofs.YtoapgbaibpkckaaGreatDoor
open Go.RowKit Go.Maps Go.BigFrame

set_option maxRecDepth 100000 in
theorem newClass_any (w : World) (ty : TypeId) (b : Nat) :
    Calls Tryz.prog 159 #[.iface ty (.pointer (some ⟨b, 0, none⟩))] w fun e w' => e = .returned (.pointer (some ⟨w.heap.size, 0, none⟩)) ∧ w' = w.alloc (.cells #[.pointer none, .int .i64 1, .iface ty (.pointer (some ⟨b, 0, none⟩)), .int .i64 0] 175) := by
  go_enter Tryz.func159, Tryz.ntmps159
  go_wp2
  go_ret
  exact ⟨rfl, rfl⟩

/-- The world behind two new blocks. -/
theorem two_new (w : World) (o1 o2 : Obj) : ((w.alloc o1).alloc o2).heap.size = w.heap.size + 2 ∧ ((w.alloc o1).alloc o2).heap[w.heap.size]? = some o1 ∧ ((w.alloc o1).alloc o2).heap[w.heap.size + 1]? = some o2 ∧ Below w.heap.size w ((w.alloc o1).alloc o2) := by
  refine ⟨by simp, ?_, ?_, below_step (below_alloc _) (below_alloc _)⟩
  · rw [heap_alloc_old _ _ (by rw [World.size_alloc]; omega)]
    exact heap_alloc_new _ _
  · have := heap_alloc_new (w.alloc o1) o2
    rw [World.size_alloc] at this
    exact this

set_option maxRecDepth 100000 in
set_option maxHeartbeats 800000 in
theorem newVariable_any (w : World) (n : Int) :
    Calls Tryz.prog 158 #[.int .i64 n] w fun e w' => e = .returned (.pointer (some ⟨w.heap.size, 0, none⟩)) ∧ w'.heap.size = w.heap.size + 2 ∧ w'.heap[w.heap.size]? = some (.cells #[.int .i64 n, .pointer (some ⟨w.heap.size + 1, 0, none⟩)] 201) ∧ w'.heap[w.heap.size + 1]? = some (.cells #[.pointer none, .int .i64 1, .iface 163 (.pointer (some ⟨w.heap.size, 0, none⟩)), .int .i64 0] 175) ∧ Below w.heap.size w w' := by
  have HN := hid (newClass_any (w.alloc (.cells #[.int .i64 n, .pointer none] 201)) 163 w.heap.size)
  go_enter Tryz.func158, Tryz.ntmps158
  go_wp2_with fail
  refine HN.out.mono ?_
  rintro e w1 ⟨rfl, rfl⟩
  rw [World.size_alloc]
  go_wp2
  go_ret
  exact ⟨rfl, two_new _ _ _⟩

set_option maxRecDepth 100000 in
set_option maxHeartbeats 800000 in
theorem newApplication_any (w : World) (c : Int) (ao : Option Addr) (n cap : Nat) :
    Calls Tryz.prog 143 #[.int .i64 c, .slice ao n cap] w fun e w' => e = .returned (.pointer (some ⟨w.heap.size, 0, none⟩)) ∧ w'.heap.size = w.heap.size + 2 ∧ w'.heap[w.heap.size]? = some (.cells #[.int .i64 c, .slice ao n cap, .pointer (some ⟨w.heap.size + 1, 0, none⟩)] 188) ∧ w'.heap[w.heap.size + 1]? = some (.cells #[.pointer none, .int .i64 1, .iface 167 (.pointer (some ⟨w.heap.size, 0, none⟩)), .int .i64 0] 175) ∧ Below w.heap.size w w' := by
  have HN := hid (newClass_any (w.alloc (.cells #[.int .i64 c, .slice ao n cap, .pointer none] 188)) 167 w.heap.size)
  go_enter Tryz.func143, Tryz.ntmps143
  go_wp2_with fail
  refine HN.out.mono ?_
  rintro e w1 ⟨rfl, rfl⟩
  rw [World.size_alloc]
  go_wp2
  go_ret
  exact ⟨rfl, two_new _ _ _⟩

end Go.Proofs.YtoapgbaibpkckaaGreatDoor

/- slices.Clone at trees of package unify; variableOf walked. -/
namespace Go.Proofs.YtoapgbaibpkckaaGreatDoor
open Go.RowKit Go.Maps Go.BigFrame

theorem info_tree6 : (Tryz.prog.info? 135).map (fun i => (i.zero, i.size, i.bytes)) = some (some .nilIface, 1, 16) := by kernel_rfl

theorem under_trees6 : Tryz.prog.underlying 159 = some (.slice 135) := by kernel_rfl

theorem under_vars6 : Tryz.prog.underlying 113 = some (.map 3 163) := by kernel_rfl

theorem zero_uvar6 (w : World) : (zeroValue 163).run Tryz.prog w = .ok (.pointer none) w := by kernel_rfl

set_option maxRecDepth 100000 in
set_option maxHeartbeats 800000 in
theorem cloneT6_any (v : Value) (vals : List Value) (w : World) (h : RdV w v vals) (h1 : ∀ u ∈ vals, u.oneCell' = true) (hl : vals.length * 16 ≤ 140737488355328) :
    Calls Tryz.prog 141 #[v] w fun e w' => ∃ v', e = .returned v' ∧ w'.ownsRow w.heap.size 135 1 v' vals.length vals ∧ Below w.heap.size w w' := by
  obtain ⟨i0, hi, hz0, hz1, hz2⟩ := info_parts info_tree6
  have hq : ∀ (W : World) (a : Option Addr) (n c n' c' : Nat), (binOp .eql 159 (.slice a n c) (.slice none n' c')).run Tryz.prog W = .ok (.bool a.isNone) W := fun W a n c n' c' => Lib.run_eql_slice_nil W _ _ a n c n' c' under_trees6
  rcases h with ⟨rfl, rfl⟩ | ⟨g, off, cap, rfl, hc⟩
  · go_enter Tryz.func141, Tryz.ntmps141
    go_wp2
    go_ret
    exact ⟨_, rfl, World.ownsRow_nil _ _ _ _, Below.refl _ _⟩
  · obtain ⟨v', w', hr, ho, hb⟩ : ∃ v' w', (Builtin.append_ #[159, 159] 159 #[.slice (some ⟨w.heap.size, 0, none⟩) 0 0, .slice (some ⟨g, off, none⟩) vals.length cap]).run Tryz.prog (w.alloc (.cells #[] 135)) = .ok v' w' ∧ w'.ownsRow w.heap.size 135 1 v' vals.length vals ∧ Below w.heap.size w w' := by
      by_cases h0 : vals.length = 0
      · obtain rfl : vals = [] := List.eq_nil_of_length_eq_zero h0
        exact ⟨_, _, run_append_nothing _ 159 159 159 135 i0 under_trees6 hi _ 0 0 (Nat.le_refl _) _ (Src.ofSlice _ under_trees6 _ 0 _ [] (by simp) (fun j u hj => (by simp at hj)) (fun u hu => (by simp at hu))), empty_row _ (Nat.le_refl _), below_alloc _⟩
      · obtain ⟨v', w', hr, h2, h3, _, _⟩ := run_append_own_at (P := Tryz.prog) (w.alloc (.cells #[] 135)) w.heap.size 159 159 135 i0 _ 1 16 under_trees6 hi hz0 hz1 hz2 rfl (by decide) _ 0 [] (empty_row _ (Nat.le_refl _)) ⟨g, off, none⟩ vals.length cap vals (by simp)
          (fun j u hj => by rw [Addr.add_lit]; exact (Kp.of_below (below_alloc _)).cell _ _ (hc j u hj)) h1 (by unfold maxLen; omega) (by omega) (below_alloc _).size
        rw [Nat.zero_add, List.nil_append] at h2
        exact ⟨v', w', hr, h2, grown_below (below_alloc _) h3 (Nat.le_refl _)⟩
    have HR := hid hr
    have HO := hid ho
    have HB := hid hb
    clear hr ho hb hc
    go_enter Tryz.func141, Tryz.ntmps141
    go_wp2_with (first
      | (at_builtin; refine wpList_append_runT rfl _ _ _ rfl _ _ rfl rfl HR.out ?_))
    go_ret
    exact ⟨_, rfl, HO.out, HB.out⟩

set_option maxRecDepth 100000 in
set_option maxHeartbeats 1600000 in
/-- The node of a variable: as the map has it, or a new one. -/
theorem variableOf_any (b : Nat) (L : List (Int × Value)) (n : Int) (w : World) (hm : MapV w b L) (h1 : -9223372036854775808 ≤ n) (h2 : n ≤ 9223372036854775807) (hL : L.length < maxLen) (hp : ∀ v, L.lookup n = some v → ∃ p, v = .pointer p) :
    Calls Tryz.prog 140 #[.map (some b), .int .i64 n] w fun e w' => (∃ v, L.lookup n = some v ∧ e = .returned v ∧ w' = w) ∨ (L.lookup n = none ∧ e = .returned (.pointer (some ⟨w.heap.size, 0, none⟩)) ∧ MapV w' b ((n, .pointer (some ⟨w.heap.size, 0, none⟩)) :: L) ∧ w.heap.size + 2 ≤ w'.heap.size ∧ w'.heap[w.heap.size]? = some (.cells #[.int .i64 n, .pointer (some ⟨w.heap.size + 1, 0, none⟩)] 201) ∧ w'.heap[w.heap.size + 1]? = some (.cells #[.pointer none, .int .i64 1, .iface 163 (.pointer (some ⟨w.heap.size, 0, none⟩)), .int .i64 0] 175) ∧ w.grownBy w' (some b)) := by
  have hl := hm.look under_vars6 (zero_uvar6 w) h1 h2
  have HM := hid hm
  have HV := hid (newVariable_any w n)
  clear hm
  cases hk : L.lookup n with
  | some v =>
    obtain ⟨p, rfl⟩ := hp v hk
    rw [hk] at hl
    simp only [Option.getD, Option.isSome] at hl
    have HL := hid hl
    clear hl hp
    go_enter Tryz.func140, Tryz.ntmps140
    go_wp2_with (first
      | (at_lookup; refine wpList_lookup_run rfl _ _ _ _ rfl _ _ _ rfl rfl HL.out ?_))
    go_ret
    exact .inl ⟨_, rfl, rfl, rfl⟩
  | none =>
    rw [hk] at hl
    simp only [Option.getD, Option.isSome] at hl
    have HL := hid hl
    clear hl hp
    go_enter Tryz.func140, Tryz.ntmps140
    go_wp2_with (first
      | (at_lookup; refine wpList_lookup_run rfl _ _ _ _ rfl _ _ _ rfl rfl HL.out ?_)
      | fail)
    refine HV.out.mono ?_
    rintro e w1 ⟨rfl, hs, hc0, hc1, hb⟩
    obtain ⟨w2, hr, hm2, hg⟩ := (HM.out.later hb).store under_vars6 h1 h2 hk hL (.pointer (some ⟨w.heap.size, 0, none⟩))
    have hbl := HM.out.lt
    have HR := hid hr
    have HA : Hid (MapV w2 b ((n, .pointer (some ⟨w.heap.size, 0, none⟩)) :: L) ∧ w.heap.size + 2 ≤ w2.heap.size ∧ w2.heap[w.heap.size]? = some (.cells #[.int .i64 n, .pointer (some ⟨w.heap.size + 1, 0, none⟩)] 201) ∧ w2.heap[w.heap.size + 1]? = some (.cells #[.pointer none, .int .i64 1, .iface 163 (.pointer (some ⟨w.heap.size, 0, none⟩)), .int .i64 0] 175) ∧ w.grownBy w2 (some b)) := by
      have hg1 := grown_of_below hb (some b)
      refine ⟨hm2, by have := hg.size; omega, (hg.block _ (by omega) (by simp; omega)).trans hc0, (hg.block _ (by omega) (by simp; omega)).trans hc1, ?_⟩
      exact ⟨hg.os.trans hg1.os, hg.tape.trans hg1.tape, hg.output.trans hg1.output, Nat.le_trans hg1.size hg.size, fun i hi hne => (hg.block i (Nat.lt_of_lt_of_le hi hg1.size) hne).trans (hg1.block i hi hne)⟩
    clear hr hm2 hg hc0 hc1 hb hs
    go_wp2_with (first
      | (at_mapUpdate; refine wpList_mapUpdate_run rfl _ _ _ _ rfl _ _ _ rfl rfl rfl HR.out ?_))
    go_ret
    exact .inr ⟨trivial, rfl, HA.out⟩

end Go.Proofs.YtoapgbaibpkckaaGreatDoor

/- The board of package unify while it is grown. -/
namespace Go.Proofs.YtoapgbaibpkckaaGreatDoor
open Go.RowKit Go.Maps Go.BigFrame

/-- The world with nothing in the blocks outside of A. -/
def only (A : Nat → Bool) (w : World) : World := { w with heap := w.heap.mapIdx fun g o => if A g then o else .cells #[] 0 }

theorem only_block {A : Nat → Bool} {w : World} {g : Nat} (h : A g = true) : (only A w).heap[g]? = w.heap[g]? := by
  simp only [only, Array.getElem?_mapIdx, h, if_true]
  cases w.heap[g]? <;> rfl

theorem only_not {A : Nat → Bool} {w : World} {a : Addr} (h : ¬ A a.block = true) : (only A w).cell? a = none := by
  have hf : A a.block = false := by simpa using h
  unfold World.cell?
  simp only [only, Array.getElem?_mapIdx]
  cases w.heap[a.block]? with
  | none => rfl
  | some o => simp [hf]

theorem only_cell {A : Nat → Bool} {w : World} {a : Addr} (h : A a.block = true) : (only A w).cell? a = w.cell? a := by
  unfold World.cell?
  rw [only_block h]

theorem only_full {A : Nat → Bool} {w : World} {b : Nat} {cs : Array Value} {t : TypeId} (h : (only A w).heap[b]? = some (.cells cs t)) (hn : cs.size ≠ 0) : A b = true := by
  by_cases hA : A b = true
  · exact hA
  · exfalso
    have hf : A b = false := by simpa using hA
    simp only [only, Array.getElem?_mapIdx] at h
    cases hw : w.heap[b]? with
    | none => rw [hw] at h; cases h
    | some o =>
      rw [hw] at h
      simp only [hf, Option.map_some, Option.some.injEq] at h
      cases h
      exact hn rfl

theorem cell_is6 {w : World} {g o : Nat} {v : Value} (h : w.cell? ⟨g, o, none⟩ = some v) : ∃ o : Obj, w.heap[g]? = some o ∧ o.isCells = true := by
  unfold World.cell? at h
  cases hw : w.heap[g]? with
  | none => simp only [hw] at h; cases h
  | some ob =>
    cases ob with
    | cells => exact ⟨_, rfl, rfl⟩
    | _ => simp only [hw] at h; cases h

/-- Of the blocks below the top those of A alone are read. -/
theorem Bd6.only_keep {A A' : Nat → Bool} {w w' : World} {B T T' : Nat} {M : List Nm} {into : Nat → Option Nat} {face : Nat → Nat} {cnt : Nat → Int} (h : Bd6 (only A w) B T M into face cnt) (hT : T ≤ T') (hb : ∀ (b : Nat) (o : Obj), b < T → A b = true → w.heap[b]? = some o → o.isCells = true → A' b = true ∧ w'.heap[b]? = some o) : Bd6 (only A' w') B T' M into face cnt := by
  have hk : ∀ (b : Nat) (cs : Array Value) (t : TypeId), b < T → (only A w).heap[b]? = some (.cells cs t) → cs.size ≠ 0 → (only A' w').heap[b]? = some (.cells cs t) := fun b cs t hbT hh hn => by
    have hA := only_full hh hn
    rw [only_block hA] at hh
    obtain ⟨h1, h2⟩ := hb b _ hbT hA hh rfl
    rw [only_block h1]
    exact h2
  refine ⟨h.inj, fun m hm => ?_, h.apart, fun m hm => ?_, fun i m hm => ?_⟩
  · have := h.low m hm
    omega
  · have h1 := h.nds m hm
    have h2 := (h.low m hm).2.2
    unfold NdAt at h1 ⊢
    split
    · rename_i n hn
      rw [hn] at h1
      simp only at h1
      exact hk _ _ _ h2 h1 (by simp)
    · rename_i c xs hn
      rw [hn] at h1
      simp only at h1
      obtain ⟨ao, cap, h3, h4, h5, h6⟩ := h1
      refine ⟨ao, cap, hk _ _ _ h2 h3 (by simp), h4, h5, ?_⟩
      rcases h6 with h6 | ⟨g, off, e, hg, hgm, hx⟩
      · exact .inl h6
      · refine .inr ⟨g, off, e, by omega, hgm, fun k x hkx => ?_⟩
        have h7 := hx k x hkx
        have hA : A g = true := by
          by_cases hA : A g = true
          · exact hA
          · rw [only_not hA] at h7
            cases h7
        rw [only_cell (a := ⟨g, off + k, none⟩) hA] at h7
        obtain ⟨o, hcs, ho⟩ := cell_is6 h7
        obtain ⟨h8, h9⟩ := hb g o hg hA hcs ho
        rw [only_cell (a := ⟨g, off + k, none⟩) h8, cell_block6 (h9.trans hcs.symm)]
        exact h7
  · obtain ⟨k, hk1⟩ := h.cls i m hm
    exact ⟨k, hk _ _ _ (h.low m (List.mem_of_getElem? hm)).1.2 hk1 (by simp)⟩

theorem only_all (w : World) : only (fun _ => true) w = w := by
  have h : (w.heap.mapIdx fun (g : Nat) o => if (fun _ => true) g = true then o else Obj.cells #[] 0) = w.heap := by
    apply Array.ext
    · simp
    · intro i h1 h2
      simp
  unfold only
  rw [h]

theorem Bd6.to_only {A : Nat → Bool} {w w' : World} {B T T' : Nat} {M : List Nm} {into : Nat → Option Nat} {face : Nat → Nat} {cnt : Nat → Int} (h : Bd6 w B T M into face cnt) (hT : T ≤ T') (hb : ∀ (b : Nat) (o : Obj), b < T → w.heap[b]? = some o → o.isCells = true → A b = true ∧ w'.heap[b]? = some o) : Bd6 (only A w') B T' M into face cnt := by
  rw [← only_all w] at h
  exact h.only_keep hT fun b o hbT _ hc ho => hb b o hbT hc ho

theorem Bd6.of_only {A : Nat → Bool} {w : World} {B T : Nat} {M : List Nm} {into : Nat → Option Nat} {face : Nat → Nat} {cnt : Nat → Int} (h : Bd6 (only A w) B T M into face cnt) : Bd6 w B T M into face cnt := by
  rw [← only_all w]
  exact h.only_keep (Nat.le_refl _) fun b o _ _ hc _ => ⟨rfl, hc⟩

theorem ndI_snoc {M : List Nm} {m : Nm} {i : Nat} (h : i < M.length) : ndI (M ++ [m]) i = ndI M i := by
  unfold ndI
  rw [List.getElem?_append_left h]

theorem ndI_new (M : List Nm) (m : Nm) : ndI (M ++ [m]) M.length = ndV m := by
  unfold ndI
  rw [snoc_new]
  rfl

/-- A node more, behind all that lay. -/
theorem Bd6.snoc {sig : List Sy} {W : World} {B T T' : Nat} {M : List Nm} (hk : NdOk sig (M.map (·.nd))) (h : Bd6 W B T M (fun _ => none) id (fun _ => 0)) {m : Nm} (hB : B ≤ T) (h1 : T ≤ m.blk) (h2 : T ≤ m.cls) (hne : m.cls ≠ m.blk) (h3 : m.blk < T') (h4 : m.cls < T')
    (hn : NdAt W T' (M ++ [m]) m) (hc : ClAt W (M ++ [m]) m.cls none M.length 0) : Bd6 W B T' (M ++ [m]) (fun _ => none) id (fun _ => 0) := by
  refine ⟨fun i j a b hi hj he => ?_, fun a ha => ?_, fun a ha b hb => ?_, fun a ha => ?_, fun i a hi => ?_⟩
  · rcases snoc_parts hi with hi' | ⟨e1, e3⟩ <;> rcases snoc_parts hj with hj' | ⟨e2, e4⟩
    · exact h.inj i j a b hi' hj' he
    · have := (h.low a (List.mem_of_getElem? hi')).1
      rw [e4] at he
      omega
    · have := (h.low b (List.mem_of_getElem? hj')).1
      rw [e3] at he
      omega
    · rw [e1, e2]
  · rcases List.mem_append.1 ha with ha | ha
    · have := h.low a ha
      omega
    · rw [List.mem_singleton] at ha
      subst ha
      omega
  · rcases List.mem_append.1 ha with ha | ha <;> rcases List.mem_append.1 hb with hb | hb
    · exact h.apart a ha b hb
    · rw [List.mem_singleton] at hb
      have := h.low a ha
      subst hb
      omega
    · rw [List.mem_singleton] at ha
      have := h.low b hb
      subst ha
      omega
    · rw [List.mem_singleton] at ha hb
      subst ha
      subst hb
      exact hne
  · rcases List.mem_append.1 ha with ha | ha
    · have h5 := h.nds a ha
      obtain ⟨i, hi⟩ := List.getElem?_of_mem ha
      unfold NdAt at h5 ⊢
      split
      · rename_i n hq
        rw [hq] at h5
        exact h5
      · rename_i c xs hq
        rw [hq] at h5
        simp only at h5
        obtain ⟨ao, cap, h6, h7, h8, h9⟩ := h5
        refine ⟨ao, cap, h6, h7, h8, ?_⟩
        rcases h9 with h9 | ⟨g, off, e, hg, hgm, hx⟩
        · exact .inl h9
        · refine .inr ⟨g, off, e, by omega, fun m' hm' => ?_, fun k x hkx => ?_⟩
          · rcases List.mem_append.1 hm' with hm' | hm'
            · exact hgm m' hm'
            · rw [List.mem_singleton] at hm'
              subst hm'
              omega
          · have hxi : x < i := hk.ahead i c xs (by rw [List.getElem?_map, hi, Option.map_some, hq]) x (List.mem_of_getElem? hkx)
            rw [ndI_snoc (by have := (List.getElem?_eq_some_iff.1 hi).1; omega)]
            exact hx k x hkx
    · rw [List.mem_singleton] at ha
      subst ha
      exact hn
  · rcases snoc_parts hi with hi | ⟨e1, rfl⟩
    · obtain ⟨k, hk1⟩ := h.cls i a hi
      refine ⟨k, ?_⟩
      show W.heap[a.cls]? = some (.cells #[inV (M ++ [m]) none, .int .i64 k, ndI (M ++ [m]) i, .int .i64 0] 175)
      rw [ndI_snoc (List.getElem?_eq_some_iff.1 hi).1]
      exact hk1
    · rw [e1]
      exact hc

/-- The map of the variables met: each has its node. -/
def Vm6 (M : List Nm) (L : List (Int × Value)) : Prop :=
  ∀ (n : Int) (v : Value), L.lookup n = some v ↔ ∃ (i : Nat) (m : Nm), M[i]? = some m ∧ m.nd = .var n ∧ v = .pointer (some ⟨m.blk, 0, none⟩)

theorem Vm6.app {M : List Nm} {L : List (Int × Value)} (h : Vm6 M L) {m : Nm} {c : Int} {xs : List Nat} (hm : m.nd = .app c xs) : Vm6 (M ++ [m]) L := fun n v => by
  rw [h n v]
  constructor
  · rintro ⟨i, m', h1, h2, h3⟩
    exact ⟨i, m', snoc_old h1, h2, h3⟩
  · rintro ⟨i, m', h1, h2, h3⟩
    rcases snoc_parts h1 with h1 | ⟨_, rfl⟩
    · exact ⟨i, m', h1, h2, h3⟩
    · rw [hm] at h2
      cases h2

theorem Vm6.var {M : List Nm} {L : List (Int × Value)} (h : Vm6 M L) {m : Nm} {n : Int} (hm : m.nd = .var n) (hn : L.lookup n = none) : Vm6 (M ++ [m]) ((n, .pointer (some ⟨m.blk, 0, none⟩)) :: L) := fun k v => by
  rw [List.lookup_cons]
  by_cases e : k = n
  · subst e
    simp only [beq_self_eq_true]
    constructor
    · intro hv
      cases hv
      exact ⟨M.length, m, snoc_new _ _, hm, rfl⟩
    · rintro ⟨i, m', h1, h2, rfl⟩
      rcases snoc_parts h1 with h1 | ⟨_, rfl⟩
      · have := (h k _).2 ⟨i, m', h1, h2, rfl⟩
        rw [hn] at this
        cases this
      · rfl
  · rw [show (k == n) = false by simpa using e]
    simp only
    rw [h k v]
    constructor
    · rintro ⟨i, m', h1, h2, h3⟩
      exact ⟨i, m', snoc_old h1, h2, h3⟩
    · rintro ⟨i, m', h1, h2, h3⟩
      rcases snoc_parts h1 with h1 | ⟨_, rfl⟩
      · exact ⟨i, m', h1, h2, h3⟩
      · rw [hm] at h2
        cases h2
        exact (e rfl).elim

theorem Vm6.none_of {M : List Nm} {L : List (Int × Value)} (h : Vm6 M L) {n : Int} (hn : L.lookup n = none) (i : Nat) : (M.map (·.nd))[i]? ≠ some (Nd.var n) := fun hi => by
  rw [List.getElem?_map, Option.map_eq_some_iff] at hi
  obtain ⟨m, h1, h2⟩ := hi
  have := (h n _).2 ⟨i, m, h1, h2, rfl⟩
  rw [hn] at this
  cases this

end Go.Proofs.YtoapgbaibpkckaaGreatDoor

/- grow of package unify: what stands between its rounds. -/
namespace Go.Proofs.YtoapgbaibpkckaaGreatDoor
open Go.RowKit Go.Maps Go.Shelf Go.BigFrame

/-- The blocks that the board may stand in while it is grown. -/
def gA (mb wz : Nat) (gv : Value) (b : Nat) : Bool := decide (mb ≠ b ∧ (b < wz ∨ wz + 4 ≤ b) ∧ gv.ownBlock ≠ some b)

theorem gA_iff {mb wz : Nat} {gv : Value} {b : Nat} : gA mb wz gv b = true ↔ (mb ≠ b ∧ (b < wz ∨ wz + 4 ≤ b) ∧ gv.ownBlock ≠ some b) := by simp [gA]

structure GI6 (sig : List Sy) (w W : World) (mb B n0 : Nat) (sv v gv : Value) (M : List Nm) (L : List (Int × Value)) (st : List Nat) (u : List Int) : Prop where
  sigb : W.cell? ⟨w.heap.size, 0, none⟩ = some sv
  mapb : W.cell? ⟨w.heap.size + 1, 0, none⟩ = some (.map (some mb))
  box : W.cell? ⟨w.heap.size + 2, 0, none⟩ = some gv
  frz : W.frozen? ⟨w.heap.size + 2, 0, none⟩ = false
  bck : W.cell? ⟨w.heap.size + 3, 0, none⟩ = some v
  own : W.ownsRow (w.heap.size + 4) 135 1 gv st.length (st.map (ndI M))
  map : MapV W mb L
  vm : Vm6 M L
  few : L.length ≤ M.length
  bd : Bd6 (only (gA mb w.heap.size gv) W) B W.heap.size M (fun _ => none) id (fun _ => 0)
  gr : Gr sig n0 (M.map (·.nd)) st u
  grown : w.grownBy W (some mb)
  sz : w.heap.size + 4 ≤ W.heap.size
  low : mb < B ∧ B ≤ w.heap.size

theorem grown_trans6 {a b c : World} {r : Option Nat} (h : a.grownBy b r) (k : b.grownBy c r) : a.grownBy c r :=
  ⟨k.os.trans h.os, k.tape.trans h.tape, k.output.trans h.output, Nat.le_trans h.size k.size, fun i hi hne => (k.block i (Nat.lt_of_lt_of_le hi h.size) hne).trans (h.block i hi hne)⟩

theorem GI6.later {sig : List Sy} {w W W' : World} {mb B n0 : Nat} {sv v gv : Value} {M : List Nm} {L : List (Int × Value)} {st : List Nat} {u : List Int} (h : GI6 sig w W mb B n0 sv v gv M L st u) (hb : Below W.heap.size W W') : GI6 sig w W' mb B n0 sv v gv M L st u := by
  have hk := Kp.of_below hb
  have hsz := h.sz
  exact ⟨hk.cell _ _ h.sigb, hk.cell _ _ h.mapb, hk.cell _ _ h.box, by rw [frozen_same (hb.block _ (by simp only; omega))]; exact h.frz, hk.cell _ _ h.bck, ownsRow_later h.own hb, h.map.later hb, h.vm, h.few,
    h.bd.only_keep hb.size (fun b o hbT hA hc _ => ⟨hA, (hb.block b hbT).trans hc⟩), h.gr, grown_trans6 h.grown (grown_of_below hb _), Nat.le_trans h.sz hb.size, h.low⟩

/-- A state of the range changes: no cells. -/
theorem GI6.put {sig : List Sy} {w W : World} {mb B n0 : Nat} {sv v gv : Value} {M : List Nm} {L : List (Int × Value)} {st : List Nat} {u : List Int} (h : GI6 sig w W mb B n0 sv v gv M L st u) {l : Nat} {o o' : Obj} (hl : w.heap.size + 4 ≤ l) (ho : W.heap[l]? = some o) (hc : o.isCells = false) : GI6 sig w (W.putObj l o') mb B n0 sv v gv M L st u := by
  have hsz : (W.putObj l o').heap.size = W.heap.size := by simp [World.putObj]
  have hlow := h.low
  have hg : W.grownBy (W.putObj l o') (some l) := ⟨rfl, rfl, rfl, by rw [hsz]; exact Nat.le_refl _, fun k _ hne => World.putObj_heap_other (fun e => hne (by rw [e]))⟩
  refine ⟨cell_putObj ho hc h.sigb, cell_putObj ho hc h.mapb, cell_putObj ho hc h.box, ?_, cell_putObj ho hc h.bck, ownsRow_putObj h.own _ ho hc, h.map.kept hg (by intro e; cases e; omega), h.vm, h.few, ?_, h.gr, ?_, by rw [hsz]; exact h.sz, h.low⟩
  · rw [frozen_same (World.putObj_heap_other (by simp only; omega))]
    exact h.frz
  · rw [hsz]
    refine h.bd.only_keep (Nat.le_refl _) (fun b o2 hbT hA hcs ho2 => ⟨hA, ?_⟩)
    rw [World.putObj_heap_other (fun e => ?_)]
    · exact hcs
    · rw [e, ho] at hcs
      cases hcs
      rw [hc] at ho2
      cases ho2
  · exact ⟨h.grown.os, h.grown.tape, h.grown.output, by rw [hsz]; exact h.grown.size, fun k hk hne => (World.putObj_heap_other (by omega)).trans (h.grown.block k hk hne)⟩

/-- What the world has when a code's node is there and not joined yet. -/
structure GN6 (sig : List Sy) (w W W1 : World) (mb B n0 : Nat) (gv : Value) (M M' : List Nm) (L' : List (Int × Value)) (st : List Nat) (k i : Nat) (c : Int) (u : List Int) : Prop where
  ext : ∀ x, x < M.length → ndI M' x = ndI M x
  map : MapV W1 mb L'
  vm : Vm6 M' L'
  few : L'.length ≤ M'.length
  bd : Bd6 (only (gA mb w.heap.size gv) W1) B W1.heap.size M' (fun _ => none) id (fun _ => 0)
  gr : Gr sig n0 (M'.map (·.nd)) (st.take k ++ [i]) (c :: u)
  grown : W.grownBy W1 (some mb)

theorem ndI_if {M : List Nm} {i : Nat} (h : i < M.length) : IfV (ndI M i) := by
  unfold ndI
  rw [List.getElem?_eq_getElem h]
  simp only [Option.map_some, Option.getD_some]
  unfold ndV
  split
  · exact ⟨_, _, rfl⟩
  · exact ⟨_, _, rfl⟩

/-- A node joined, and the box set. -/
theorem GI6.push (ty : TypeId) {sig : List Sy} {w W W1 : World} {mb B n0 : Nat} {sv v gv : Value} {M M' : List Nm} {L L' : List (Int × Value)} {st : List Nat} {u : List Int} {k i : Nat} {c : Int} {ao : Option Addr} {cap : Nat} (h : GI6 sig w W mb B n0 sv v gv M L st u) (hgv : gv = .slice ao st.length cap) (hk : k ≤ st.length)
    (hN : GN6 sig w W W1 mb B n0 gv M M' L' st k i c u) (hl : (k + 1) * 16 ≤ 140737488355328) :
    ∃ g cp W2, (Builtin.append_ #[159, 159] ty #[.slice ao k cap, .slice (some ⟨W1.heap.size, 0, none⟩) 1 1]).run Tryz.prog (W1.alloc (.cells #[ndI M' i] 135)) = .ok (.slice (some ⟨g, 0, none⟩) (k + 1) cp) W2 ∧
      W2.cell? ⟨w.heap.size + 2, 0, none⟩ = some gv ∧ W2.frozen? ⟨w.heap.size + 2, 0, none⟩ = false ∧
      GI6 sig w (W2.setCell ⟨w.heap.size + 2, 0, none⟩ (.slice (some ⟨g, 0, none⟩) (k + 1) cp)) mb B n0 sv v (.slice (some ⟨g, 0, none⟩) (k + 1) cp) M' L' (st.take k ++ [i]) (c :: u) ∧ KeepsFrom (w.heap.size + 4) W (W2.setCell ⟨w.heap.size + 2, 0, none⟩ (.slice (some ⟨g, 0, none⟩) (k + 1) cp)) := by
  obtain ⟨i0, hi, hz0, hz1, hz2⟩ := info_parts info_tree6
  have hiM : i < M'.length := by
    have := hN.gr.lt (x := i) (by simp)
    rwa [List.length_map] at this
  have ha := below_alloc (w := W1) (.cells #[ndI M' i] 135)
  have hga : W.grownBy (W1.alloc (.cells #[ndI M' i] 135)) (some mb) := grown_trans6 hN.grown (grown_of_below ha _)
  have hsz := h.sz
  have hlow := h.low
  have hsw : W.heap.size ≤ (W1.alloc (.cells #[ndI M' i] 135)).heap.size := hga.size
  have hgb : ∀ j, gv.ownBlock = some j → w.heap.size + 4 ≤ j := fun j hj => own_blk h.own hj
  have hmap : st.map (ndI M) = st.map (ndI M') := List.map_congr_left (fun x hx => ((hN.ext x (by have := h.gr.lt hx; rwa [List.length_map] at this)).symm))
  have hown := h.own.kept hga (.inr (fun e => by have := hgb mb e; omega))
  rw [hgv, hmap] at hown
  have hcut := own_cut hown hk
  rw [← List.map_take] at hcut
  obtain ⟨v', W2, hr, h2, h3, _, h5⟩ := run_append_own_at (P := Tryz.prog) (W1.alloc (.cells #[ndI M' i] 135)) (w.heap.size + 4) 159 ty 135 i0 _ 1 16 under_trees6 hi hz0 hz1 hz2 rfl (by decide) (.slice ao k cap) k ((st.take k).map (ndI M')) hcut ⟨W1.heap.size, 0, none⟩ 1 1 [ndI M' i] rfl
    (fun j y hj => by
      rw [Addr.add_lit, Nat.zero_add]
      cases j with
      | zero =>
        simp at hj
        subst hj
        rw [cell_of_row _ _ _ _ _ _ (heap_alloc_new _ _)]
        rfl
      | succ j => simp at hj) (fun y hy => by simp at hy; subst hy; exact (ndI_if hiM).one) (by unfold maxLen; omega) (by omega) (Nat.le_trans hsz hsw)
  obtain ⟨g, cp, rfl⟩ := own_form h2 (by omega)
  have hge := own_ge h2
  have hob : (Value.slice ao k cap).ownBlock = gv.ownBlock := by rw [hgv]; cases ao <;> rfl
  rw [hob] at h3 h5
  have hold : ∀ b, b < w.heap.size + 4 → b ≠ mb → W2.heap[b]? = W.heap[b]? := fun b hb2 hb3 => by
    rw [h3.block b (Nat.lt_of_lt_of_le (Nat.lt_of_lt_of_le hb2 hsz) hsw) (fun e => by have := hgb b e.symm; omega)]
    exact hga.block b (Nat.lt_of_lt_of_le hb2 hsz) (fun e => hb3 (by cases e; rfl))
  have hbox : W2.cell? ⟨w.heap.size + 2, 0, none⟩ = some gv := by
    rw [World.cell?_of_block (hold _ (by simp only; omega) (by simp only; omega))]
    exact h.box
  have hfrz : W2.frozen? ⟨w.heap.size + 2, 0, none⟩ = false := by
    rw [frozen_same (hold _ (by simp only; omega) (by simp only; omega))]
    exact h.frz
  have hne : ∀ b, b < (W1.alloc (.cells #[ndI M' i] 135)).heap.size → gv.ownBlock ≠ some b → g ≠ b := fun b hb1 hb2 e => by
    subst e
    rcases h5 with h5 | h5
    · exact hb2 (by rw [← h5]; rfl)
    · simp only [Value.ownBlock, Option.some.injEq] at h5
      omega
  have hs2 : (W2.setCell ⟨w.heap.size + 2, 0, none⟩ (.slice (some ⟨g, 0, none⟩) (k + 1) cp)).heap.size = W2.heap.size := by simp [World.setCell]
  have hvl : (st.take k ++ [i]).length = k + 1 := by rw [List.length_append, List.length_take, Nat.min_eq_left hk]; rfl
  have hs3 := h3.size
  refine ⟨g, cp, W2, hr, hbox, hfrz, ⟨?_, ?_, World.cell?_setCell_same' _ _ _ (by rw [hbox]; rfl), by rw [World.frozen?_setCell]; exact hfrz, ?_, ?_, ?_, hN.vm, hN.few, ?_, hN.gr, ?_, ?_, h.low⟩, ?_⟩
  · rw [World.cell?_setCell_far _ _ _ _ (by simp only; omega), World.cell?_of_block (hold _ (by simp only; omega) (by simp only; omega))]
    exact h.sigb
  · rw [World.cell?_setCell_far _ _ _ _ (by simp only; omega), World.cell?_of_block (hold _ (by simp only; omega) (by simp only; omega))]
    exact h.mapb
  · rw [World.cell?_setCell_far _ _ _ _ (by simp only; omega), World.cell?_of_block (hold _ (by simp only; omega) (by simp only; omega))]
    exact h.bck
  · rw [hvl, List.map_append]
    exact h2.kept (set_grownT W2 (w.heap.size + 2) 0 _) (.inr (by simp only [Value.ownBlock, ne_eq, Option.some.injEq]; omega))
  · exact ((hN.map.later ha).kept h3 (fun e => by have := hgb mb e; omega)).kept (set_grownT W2 (w.heap.size + 2) 0 _) (by intro e; cases e; omega)
  · rw [hs2]
    refine hN.bd.only_keep (Nat.le_trans ha.size hs3) (fun b o hbT hA hcs _ => ?_)
    rw [gA_iff] at hA ⊢
    have hbT2 := Nat.lt_of_lt_of_le hbT ha.size
    refine ⟨⟨hA.1, hA.2.1, ?_⟩, ?_⟩
    · simp only [Value.ownBlock, ne_eq, Option.some.injEq]
      exact hne b hbT2 hA.2.2
    · rw [heap_setCell_other _ _ _ _ (show b ≠ w.heap.size + 2 by have := hA.2.1; omega), h3.block b hbT2 (fun e => hA.2.2 e.symm), ha.block b hbT]
      exact hcs
  · refine ⟨(h3.os.trans hga.os).trans h.grown.os, (h3.tape.trans hga.tape).trans h.grown.tape, (h3.output.trans hga.output).trans h.grown.output, by rw [hs2]; exact Nat.le_trans h.grown.size (Nat.le_trans hsw hs3), fun b hb hb2 => ?_⟩
    rw [heap_setCell_other _ _ _ _ (show b ≠ w.heap.size + 2 by omega), hold b (by omega) (fun e => hb2 (by rw [e]))]
    exact h.grown.block b hb hb2
  · rw [hs2]
    exact Nat.le_trans hsz (Nat.le_trans hsw hs3)
  · refine ⟨by rw [hs2]; exact Nat.le_trans hsw hs3, fun j o hj ho hoc => ?_⟩
    have hjl := (Array.getElem?_eq_some_iff.1 ho).1
    rw [heap_setCell_other _ _ _ _ (show j ≠ w.heap.size + 2 by omega), h3.block j (Nat.lt_of_lt_of_le hjl hsw) (fun e => ?_), hga.block j hjl (fun e => by cases e; omega)]
    · exact ho
    · rcases h.own.2 with ⟨h8, _⟩ | ⟨g8, c8, cur8, h8, _, hg8, _⟩
      · rw [h8] at e; cases e
      · rw [h8] at e
        simp only [Value.ownBlock, Option.some.injEq] at e
        subst e
        rw [hg8] at ho
        cases ho
        simp [Obj.isCells] at hoc

end Go.Proofs.YtoapgbaibpkckaaGreatDoor

/- grow of package unify: a code's node made. -/
namespace Go.Proofs.YtoapgbaibpkckaaGreatDoor
open Go.RowKit Go.Maps Go.Shelf Go.BigFrame

theorem own_lt6 {w : World} {base : Nat} {e : TypeId} {s m j : Nat} {v : Value} {xs : List Value} (h : w.ownsRow base e s v m xs) (hj : v.ownBlock = some j) : j < w.heap.size := by
  rcases h.2 with ⟨rfl, _⟩ | ⟨g, cap, cur, rfl, _, hg, _⟩
  · cases hj
  · cases hj
    exact (Array.getElem?_eq_some_iff.1 hg).1

/-- What lies behind all that lay is the board's to have. -/
theorem GI6.free {sig : List Sy} {w W : World} {mb B n0 : Nat} {sv v gv : Value} {M : List Nm} {L : List (Int × Value)} {st : List Nat} {u : List Int} (h : GI6 sig w W mb B n0 sv v gv M L st u) {b : Nat} (hb : W.heap.size ≤ b) : gA mb w.heap.size gv b = true := by
  have hsz := h.sz
  have hlow := h.low
  exact gA_iff.2 ⟨by omega, .inr (by omega), fun e => by have := own_lt6 h.own e; omega⟩

theorem GI6.board {sig : List Sy} {w W W1 : World} {mb B n0 : Nat} {sv v gv : Value} {M : List Nm} {L : List (Int × Value)} {st : List Nat} {u : List Int} (h : GI6 sig w W mb B n0 sv v gv M L st u) (hg : W.grownBy W1 (some mb)) {T : Nat} (hT : W.heap.size ≤ T) : Bd6 (only (gA mb w.heap.size gv) W1) B T M (fun _ => none) id (fun _ => 0) :=
  h.bd.only_keep hT (fun b o hbT hA hc _ => ⟨hA, (hg.block b hbT (fun e => (gA_iff.1 hA).1 (by cases e; rfl))).trans hc⟩)

theorem gn_old {sig : List Sy} {w W : World} {mb B n0 : Nat} {sv v gv : Value} {M : List Nm} {L : List (Int × Value)} {st : List Nat} {u : List Int} (h : GI6 sig w W mb B n0 sv v gv M L st u) {n : Int} {x : Value} (hx : L.lookup n = some x) :
    ∃ i p, x = .pointer p ∧ ndI M i = .iface 163 x ∧ GN6 sig w W W mb B n0 gv M M L st st.length i (-1 - n) u := by
  obtain ⟨i, m, hm, hn, rfl⟩ := (h.vm n x).1 hx
  refine ⟨i, _, rfl, ?_, ⟨fun _ _ => rfl, h.map, h.vm, h.few, h.bd, ?_, ⟨rfl, rfl, rfl, Nat.le_refl _, fun _ _ _ => rfl⟩⟩⟩
  · unfold ndI ndV
    rw [hm]
    simp only [Option.map_some, Option.getD_some, hn]
  · rw [List.take_length]
    exact gr_old h.gr (by rw [List.getElem?_map, hm, Option.map_some, hn])

theorem gn_new {sig : List Sy} {w W W1 : World} {mb B n0 : Nat} {sv v gv : Value} {M : List Nm} {L : List (Int × Value)} {st : List Nat} {u : List Int} (h : GI6 sig w W mb B n0 sv v gv M L st u) {n : Int} (h0 : 0 ≤ n) (h1 : n < 1048576) (hx : L.lookup n = none)
    (hm : MapV W1 mb ((n, .pointer (some ⟨W.heap.size, 0, none⟩)) :: L)) (hs : W.heap.size + 2 ≤ W1.heap.size) (hc0 : W1.heap[W.heap.size]? = some (.cells #[.int .i64 n, .pointer (some ⟨W.heap.size + 1, 0, none⟩)] 201)) (hc1 : W1.heap[W.heap.size + 1]? = some (.cells #[.pointer none, .int .i64 1, .iface 163 (.pointer (some ⟨W.heap.size, 0, none⟩)), .int .i64 0] 175)) (hg : W.grownBy W1 (some mb)) :
    ∃ m : Nm, ndI (M ++ [m]) M.length = .iface 163 (.pointer (some ⟨W.heap.size, 0, none⟩)) ∧ GN6 sig w W W1 mb B n0 gv M (M ++ [m]) ((n, .pointer (some ⟨W.heap.size, 0, none⟩)) :: L) st st.length M.length (-1 - n) u := by
  have hsz := h.sz
  have hlow := h.low
  refine ⟨⟨W.heap.size, W.heap.size + 1, .var n⟩, ndI_new _ _, ⟨fun x hxl => ndI_snoc hxl, hm, h.vm.var rfl hx, by have := h.few; simp only [List.length_cons, List.length_append, List.length_nil]; omega, ?_, ?_, hg⟩⟩
  · refine Bd6.snoc h.gr.ok (h.board hg (Nat.le_refl _)) (by omega) (Nat.le_refl _) (Nat.le_succ _) (by simp only; omega) (by simp only; omega) (by simp only; omega) ?_ ⟨1, ?_⟩
    · show (only _ W1).heap[W.heap.size]? = _
      rw [only_block (h.free (Nat.le_refl _))]
      exact hc0
    · show (only _ W1).heap[W.heap.size + 1]? = _
      rw [only_block (h.free (Nat.le_succ _)), ndI_new]
      exact hc1
  · rw [List.take_length, List.map_append]
    have := gr_new h.gr h0 h1 (h.vm.none_of hx)
    rw [List.length_map] at this
    exact this

theorem gn_app {sig : List Sy} {w W Wb W1 : World} {mb B n0 : Nat} {sv v gv : Value} {M : List Nm} {L : List (Int × Value)} {st : List Nat} {u : List Int} (h : GI6 sig w W mb B n0 sv v gv M L st u) {c : Int} (h0 : ¬ c < 0) (h1 : c.toNat < sig.length) {r : Nat} (hr : r + arN sig c = st.length) {ao : Option Addr} {n cap : Nat}
    (hn : n = arN sig c) (ho : Wb.ownsRow W.heap.size 135 1 (.slice ao n cap) n ((st.drop r).map (ndI M)).reverse) (hb : Below W.heap.size W Wb) (hs : W1.heap.size = Wb.heap.size + 2)
    (hc0 : W1.heap[Wb.heap.size]? = some (.cells #[.int .i64 c, .slice ao n cap, .pointer (some ⟨Wb.heap.size + 1, 0, none⟩)] 188)) (hc1 : W1.heap[Wb.heap.size + 1]? = some (.cells #[.pointer none, .int .i64 1, .iface 167 (.pointer (some ⟨Wb.heap.size, 0, none⟩)), .int .i64 0] 175)) (hb1 : Below Wb.heap.size Wb W1) :
    ∃ m : Nm, ndI (M ++ [m]) M.length = .iface 167 (.pointer (some ⟨Wb.heap.size, 0, none⟩)) ∧ GN6 sig w W W1 mb B n0 gv M (M ++ [m]) L st r M.length c u := by
  have hsz := h.sz
  have hlow := h.low
  have hbs := hb.size
  have hbb : Below W.heap.size W W1 := ⟨hb1.os.trans hb.os, hb1.tape.trans hb.tape, hb1.output.trans hb.output, Nat.le_trans hb.size hb1.size, fun k hk => (hb1.block k (by omega)).trans (hb.block k hk)⟩
  have hxl : ((st.drop r).reverse).length = n := by rw [List.length_reverse, List.length_drop]; omega
  refine ⟨⟨Wb.heap.size, Wb.heap.size + 1, .app c (st.drop r).reverse⟩, ndI_new _ _, ⟨fun x hxl => ndI_snoc hxl, h.map.later hbb, h.vm.app rfl, by have := h.few; simp only [List.length_append, List.length_cons, List.length_nil]; omega, ?_, ?_, grown_of_below hbb _⟩⟩
  · refine Bd6.snoc h.gr.ok (h.board (grown_of_below hbb _) (Nat.le_refl _)) (by omega) hbs (Nat.le_succ_of_le hbs) (by simp only; omega) (by simp only; omega) (by simp only; omega) ?_ ⟨1, ?_⟩
    · show ∃ ao cap, _
      refine ⟨ao, cap, ?_, ?_⟩
      · rw [hxl, only_block (h.free hbs)]
        exact hc0
      · rw [hxl]
        rcases ho.2 with ⟨h8, h9⟩ | ⟨g, cp, cur, h8, hgb, hg, hc, hm, _⟩
        · cases h8
          exact ⟨by omega, by simp [maxLen], .inl (List.eq_nil_of_length_eq_zero (by rw [hxl]))⟩
        · cases h8
          have hgl := (Array.getElem?_eq_some_iff.1 hg).1
          refine ⟨hc, hm, .inr ⟨g, 0, rfl, by omega, fun m' hm' => ?_, fun k x hk => ?_⟩⟩
          · rcases List.mem_append.1 hm' with hm' | hm'
            · have := (h.bd.low m' hm').1
              omega
            · rw [List.mem_singleton] at hm'
              subst hm'
              simp only
              omega
          · have hkl := (List.getElem?_eq_some_iff.1 hk).1
            have hx : x < M.length := by
              have := h.gr.lt (List.mem_of_mem_drop (List.mem_reverse.1 (List.mem_of_getElem? hk)))
              rwa [List.length_map] at this
            rw [only_cell (a := ⟨g, 0 + k, none⟩) (h.free hgb), ndI_snoc hx, World.cell?_of_block (hb1.block g hgl), Nat.zero_add, World.ownsRow.cellAt ho k (by omega), ← List.map_reverse, List.getElem?_map, hk]
            rfl
    · show (only _ W1).heap[Wb.heap.size + 1]? = _
      rw [only_block (h.free (Nat.le_succ_of_le hbs)), ndI_new]
      exact hc1
  · rw [List.map_append]
    have := gr_app h.gr h0 h1 (by omega)
    rw [List.length_map, show st.length - arN sig c = r by omega] at this
    exact this

end Go.Proofs.YtoapgbaibpkckaaGreatDoor

/- grow of package unify: what a round's call leaves. -/
namespace Go.Proofs.YtoapgbaibpkckaaGreatDoor
open Go.RowKit Go.Maps Go.Shelf Go.BigFrame

/-- Between rounds. -/
def GRel (sig : List Sy) (w : World) (mb B n0 : Nat) (M0 : List Nm) (sv v : Value) (u : List Int) (W : World) : Prop := ∃ gv M' L' st', GI6 sig w W mb B n0 sv v gv M' L' st' u ∧ ∃ X, M' = M0 ++ X

/-- A node is there; what its joining leaves. -/
def GOut (ty : TypeId) (sig : List Sy) (w W : World) (mb B n0 : Nat) (M0 : List Nm) (sv v gv : Value) (ao : Option Addr) (n cap k : Nat) (u : List Int) (e : Ending) (w3 : World) : Prop :=
  ∃ p, e = .returned (.pointer p) ∧ w3.cell? ⟨w.heap.size + 2, 0, none⟩ = some (.slice ao n cap) ∧ ∃ g cp W2, (Builtin.append_ #[159, 159] 159 #[.slice ao k cap, .slice (some ⟨w3.heap.size, 0, none⟩) 1 1]).run Tryz.prog (w3.alloc (.cells #[.iface ty (.pointer p)] 135)) = .ok (.slice (some ⟨g, 0, none⟩) (k + 1) cp) W2 ∧
    W2.cell? ⟨w.heap.size + 2, 0, none⟩ = some gv ∧ W2.frozen? ⟨w.heap.size + 2, 0, none⟩ = false ∧ KeepsFrom (w.heap.size + 4) W (W2.setCell ⟨w.heap.size + 2, 0, none⟩ (.slice (some ⟨g, 0, none⟩) (k + 1) cp)) ∧
    GRel sig w mb B n0 M0 sv v u (W2.setCell ⟨w.heap.size + 2, 0, none⟩ (.slice (some ⟨g, 0, none⟩) (k + 1) cp))

theorem gout_of {ty : TypeId} {sig : List Sy} {w W w3 : World} {mb B n0 : Nat} {M0 M M' : List Nm} {sv v gv : Value} {L L' : List (Int × Value)} {st : List Nat} {u : List Int} {k i : Nat} {c : Int} {ao : Option Addr} {cap : Nat} {p : Option Addr} (h : GI6 sig w W mb B n0 sv v gv M L st u) (hgv : gv = .slice ao st.length cap) (hk : k ≤ st.length)
    (hN : GN6 sig w W w3 mb B n0 gv M M' L' st k i c u) (hi : ndI M' i = .iface ty (.pointer p)) (hl : (k + 1) * 16 ≤ 140737488355328) (hX : ∃ X, M' = M0 ++ X) : GOut ty sig w W mb B n0 M0 sv v gv ao st.length cap k (c :: u) (.returned (.pointer p)) w3 := by
  obtain ⟨g, cp, W2, hr, hb, hf, hg, hkp⟩ := h.push 159 hgv hk hN hl
  rw [hi] at hr
  have hsz := h.sz
  have hlow := h.low
  refine ⟨p, rfl, ?_, g, cp, W2, hr, hb, hf, hkp, _, _, _, _, hg, hX⟩
  rw [World.cell?_of_block (hN.grown.block _ (by simp only; omega) (fun e => by simp only [Option.some.injEq] at e; omega)), h.box, hgv]

theorem var_out {sig : List Sy} {w W : World} {mb B n0 : Nat} {M0 M : List Nm} {sv v gv : Value} {L : List (Int × Value)} {st : List Nat} {u : List Int} {ao : Option Addr} {cap : Nat} {c : Int} (h : GI6 sig w W mb B n0 sv v gv M L st u) (hgv : gv = .slice ao st.length cap) (hc : c < 0) (hc1 : -1048576 ≤ c) (hX : ∃ X, M = M0 ++ X) (hl : (st.length + 1) * 16 ≤ 140737488355328) (hM : M.length < maxLen) :
    Calls Tryz.prog 140 #[.map (some mb), .int .i64 (-1 - c)] W (GOut 163 sig w W mb B n0 M0 sv v gv ao st.length cap st.length (c :: u)) := by
  have hcc : c = -1 - (-1 - c) := by omega
  refine (variableOf_any mb L (-1 - c) W h.map (by omega) (by omega) (Nat.lt_of_le_of_lt h.few hM) (fun x hx => ?_)).mono ?_
  · obtain ⟨i, p, rfl, _⟩ := gn_old h hx
    exact ⟨p, rfl⟩
  · rintro e w3 (⟨x, hx, rfl, rfl⟩ | ⟨hx, rfl, hm, hs, hc0, hc1, hg⟩)
    · obtain ⟨i, p, rfl, hi, hN⟩ := gn_old h hx
      rw [← hcc] at hN
      exact gout_of h hgv (Nat.le_refl _) hN hi hl hX
    · obtain ⟨m, hi, hN⟩ := gn_new h (n := -1 - c) (by omega) (by omega) hx hm hs hc0 hc1 hg
      rw [← hcc] at hN
      obtain ⟨X, hX⟩ := hX
      exact gout_of h hgv (Nat.le_refl _) hN hi hl ⟨X ++ [m], by rw [hX, List.append_assoc]⟩

theorem app_out {sig : List Sy} {w W Wb : World} {mb B n0 : Nat} {M0 M : List Nm} {sv v gv : Value} {L : List (Int × Value)} {st : List Nat} {u : List Int} {ao : Option Addr} {cap : Nat} {c : Int} {r : Nat} {co : Option Addr} {cn cc : Nat} (h : GI6 sig w W mb B n0 sv v gv M L st u) (hgv : gv = .slice ao st.length cap) (hc : ¬ c < 0) (hc1 : c.toNat < sig.length) (hr : r + arN sig c = st.length) (hX : ∃ X, M = M0 ++ X) (hl : (r + 1) * 16 ≤ 140737488355328)
    (hn : cn = arN sig c) (ho : Wb.ownsRow W.heap.size 135 1 (.slice co cn cc) cn ((st.drop r).map (ndI M)).reverse) (hb : Below W.heap.size W Wb) :
    Calls Tryz.prog 143 #[.int .i64 c, .slice co cn cc] Wb (GOut 167 sig w W mb B n0 M0 sv v gv ao st.length cap r (c :: u)) := by
  refine (newApplication_any Wb c co cn cc).mono ?_
  rintro e w3 ⟨rfl, hs, hc0, hc2, hb1⟩
  obtain ⟨m, hi, hN⟩ := gn_app h hc hc1 hr hn ho hb hs hc0 hc2 hb1
  obtain ⟨X, hX⟩ := hX
  exact gout_of h hgv (by omega) hN hi hl ⟨X ++ [m], by rw [hX, List.append_assoc]⟩

end Go.Proofs.YtoapgbaibpkckaaGreatDoor
