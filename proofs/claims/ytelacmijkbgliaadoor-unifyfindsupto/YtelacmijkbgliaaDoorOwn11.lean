/- Texts of the proof, one behind the other. -/
import Derived.Test.YtelacmijkbgliaaDoorOwn6
import Derived.Test.YtelacmijkbgliaaDoorOwn10
import Derived.Test.YtelacmijkbgliaaDoorOwn3
/- count of package unify walked. -/
namespace Go.Proofs.YtelacmijkbgliaaDoor
open Go.RowKit Go.Maps Go.BigFrame

theorem snoc7 {α : Type} (l : List α) : l = [] ∨ ∃ xs x, l = xs ++ [x] := by
  rcases List.eq_nil_or_concat l with h | ⟨xs, x, h⟩
  · exact .inl h
  · exact .inr ⟨xs, x, by rw [h, List.concat_eq_append]⟩

set_option maxRecDepth 100000 in
set_option maxHeartbeats 3200000 in
theorem uCount_any {sig : List Sy} (har : ArOk sig) {w : World} {B T : Nat} {M : List Nm} {into : Nat → Option Nat} {face : Nat → Nat} {cnt : Nat → Int} {root rk : Nat → Nat} {r : Nat} {mr : Nm} (hL : NdOk sig (M.map Nm.nd)) (hok : ClOk (M.map Nm.nd) root face) (hn : M.length ≤ 4194304) (hlow : T ≤ w.heap.size) (hb : Bd6 w B T M into face cnt) (hf : Fr6 M.length into root rk) (hci : CI M root face r cnt [r]) (hmr : M[r]? = some mr) :
    Calls Tryd.prog 39 #[.pointer (some ⟨mr.cls, 0, none⟩)] w fun e w' => ∃ ok into' cnt', e = .returned (.bool ok) ∧ Bd6 w' B T M into' face cnt' ∧ Fr6 M.length into' root rk ∧ Ch6 M w w' ∧ (ok = false → ∃ c, c < M.length ∧ root c = c ∧ Rch (M.map Nm.nd) root face c c) ∧ (ok = true → CI M root face r cnt' []) := by
  have hlen : (M.map Nm.nd).length = M.length := by rw [List.length_map]
  obtain ⟨hwf, hsym⟩ := nd_wf har hL
  have hrl : ∀ i, i < M.length → root i < M.length := fun i hi => by have := hok.lt i (by omega); omega
  have hfl : ∀ i, i < M.length → root i = i → face i < M.length := fun i hi hr => by have := hok.face_lt i (by omega); rw [hr] at this; omega
  have HB := hid hb
  have HF := hid hf
  have HCI := hid hci
  have HLo := hid hlow
  have HL := hid hL
  have HOk := hid hok
  have HWf := hid hwf
  have HRl := hid hrl
  have HFl := hid hfl
  have HMr := hid hmr
  have hcw : ∀ m ∈ M, m.cls < w.heap.size := fun m hm => Nat.lt_of_lt_of_le (hb.low m hm).1.2 hlow
  have HCw := hid hcw
  clear hb hf hci hlow hL hok hwf hsym hrl hfl hmr har hlen hcw
  go_enter Tryd.func39, Tryd.ntmps39
  go_wp2
  go_loopg [3] (M.length * 1001 + 1) (fun k v wr => ∃ (O : List Nat) (into' : Nat → Option Nat) (cnt' : Nat → Int), OwC6 wr w.heap.size M v O ∧ Bd6 wr B T M into' face cnt' ∧ Fr6 M.length into' root rk ∧ CI M root face r cnt' O ∧ Ch6 M w wr ∧ nZero M.length cnt' * 1001 + O.length ≤ k ∧ k ≤ M.length * 1001 + 1)
  case atStart =>
    have hbA : Below w.heap.size w (w.alloc (.cells #[.pointer (some ⟨mr.cls, 0, none⟩)] 68)) := below_alloc _
    refine ⟨[r], into, cnt, ?_, HB.out.later hbA, HF.out, HCI.out, Ch6.of_below hbA, ?_, Nat.le_refl _⟩
    · refine ⟨rfl, .inr ⟨w.heap.size, 1, #[.pointer (some ⟨mr.cls, 0, none⟩)], rfl, Nat.le_refl _, heap_alloc_new _ _, Nat.le_refl _, by simp [maxLen], rfl, ?_⟩⟩
      simp only [List.map_cons, List.map_nil]
      rw [clV_eq HMr.out]
      rfl
    · have := nZero_le M.length cnt
      simp only [List.length_cons, List.length_nil]
      omega
  case round =>
    obtain ⟨O, into', cnt', how, hb', hf', hc', hch, hk1, hk2⟩ := hrel
    have HB' := hid hb'
    have HF' := hid hf'
    have HC' := hid hc'
    have HCh := hid hch
    rcases snoc7 O with rfl | ⟨Q, q, rfl⟩
    · obtain ⟨ao, cp, rfl⟩ : ∃ ao cp, u3 = .slice ao 0 cp := by
        rcases how.2 with ⟨h8, _⟩ | ⟨g8, c8, _, h8, _⟩
        · exact ⟨_, _, h8⟩
        · exact ⟨_, _, h8⟩
      clear how hb' hf' hc' hch hk1 hk2
      go_wp2
      go_ret
      exact ⟨true, into', cnt', rfl, HB'.out, HF'.out, HCh.out, fun h => (by cases h), fun _ => HC'.out⟩
    · obtain ⟨hql, hqr⟩ := hc'.el q (by simp)
      obtain ⟨mq, hmq⟩ : ∃ m, M[q]? = some m := ⟨_, List.getElem?_eq_getElem hql⟩
      obtain ⟨g, cp, hv, hge, hcp1, hcp2, hca⟩ := own_last6 how (k := Q.length) (x := q) (by simp)
      have hll : (Q ++ [q]).length = Q.length + 1 := by simp
      rw [hll] at hv hcp1
      subst hv
      have hct := own_cut6 (k := Q.length) (by rw [hll]; exact how) (by rw [hll]; omega)
      rw [List.take_left] at hct
      have HOw : Hid (OwC6 wr w.heap.size M (.slice (some ⟨g, 0, none⟩) (Q.length + 1) cp) (Q ++ [q])) := by rw [← hll]; rw [hll]; exact how
      obtain ⟨N, hN⟩ : ∃ N, N = Q.length := ⟨_, rfl⟩
      rw [← hN] at hca hct hcp1 HOw ⊢
      have HCt := hid hct
      have HMq := hid hmq
      have HN := hid hN
      have hNb : N ≤ 4294967296 := by rw [hN]; rw [hll] at hk1; omega
      have hw1 : IntKind.i64.wrap ((N : Int) + 1 - 1) = (N : Int) := by rw [IntWalk.i64_in _ ⟨by omega, by omega⟩]; omega
      have hw1' : IntKind.i64.wrap (N : Int) = (N : Int) := IntWalk.i64_in _ ⟨by omega, by omega⟩
      have hxc : N ≤ cp := by omega
      rw [clV_eq hmq] at hca
      obtain ⟨k9, hk9, _, _, _, x3⟩ := hb'.clc hmq
      have HQl := hid hql
      have HQr := hid hqr
      have HK1 : Hid (nZero M.length cnt' * 1001 + (Q.length + 1) ≤ gk) := by rw [hll] at hk1; exact hk1
      have HK2 := hid hk2
      have HFq := hid (HFl.out q hql hqr)
      by_cases h0 : cnt' q = 0
      · rw [h0] at x3
        have f3 : wr.frozen? ⟨mq.cls, 3, none⟩ = false := frozen_of_row _ _ _ _ _ hk9
        obtain ⟨W1, hW1⟩ : ∃ X, X = wr.setCell ⟨mq.cls, 3, none⟩ (.int .i64 (-1)) := ⟨_, rfl⟩
        obtain ⟨hb1, hc1⟩ := hb'.put hmq (o := into' q) (f := face q) (n := -1) (w' := W1) (by rw [hW1]; exact set_grown _ _ _ _) ⟨k9, by rw [hW1]; exact heap_setCell_same _ _ _ _ _ _ hk9⟩
        rw [if_self6, if_self6] at hb1
        have HC1 := hid (hch.trans hc1)
        have HO1 : Hid (OwC6 W1 w.heap.size M (.slice (some ⟨g, 0, none⟩) (N + 1) cp) (Q ++ [q])) := own_ch6 HOw.out hc1 HCw.out
        have HPa := hid (parts_any hb1 hf' (Nat.le_trans HLo.out (hch.trans hc1).size) HWf.out hmq HFq.out)
        obtain ⟨ps, hps⟩ : ∃ ps, ps = ptsN M root (face q) := ⟨_, rfl⟩
        rw [← hps] at HPa
        have HPs := hid hps
        obtain ⟨hpl, hpn⟩ := ptsN_lt HWf.out HRl.out (f := face q)
        rw [← hps] at hpl hpn
        have HPl := hid hpl
        have H0 := hid h0
        obtain ⟨cnt1, hcnt1⟩ : ∃ c : Nat → Int, c = fun j => if j = q then -1 else cnt' j := ⟨_, rfl⟩
        rw [← hcnt1] at HPa
        have HCn1 := hid hcnt1
        clear how hb' hf' hc' hch hk1 hk2 hll hct hmq hk9 hb1 hc1 hps hpl h0 hcnt1 hN hql hqr
        go_upto_region 8 with fail
        rw [← hW1]
        clear hW1 x3 f3 hca hw1 hw1'
        go_wp2_with fail
        refine HPa.out.mono ?_
        rintro e w2 ⟨v2, into2, rfl, o2, hb2, hf2, hc2⟩
        obtain ⟨ao, cap, hv2, hcap1, hcap2⟩ := o2.shape
        subst hv2
        unfold maxLen at hcap2
        have HO2 := hid o2
        have HB2 := hid hb2
        have HF2 := hid hf2
        have HC2 := hid (HC1.out.trans hc2)
        have HV2 : Hid (OwC6 w2 w.heap.size M (.slice (some ⟨g, 0, none⟩) (N + 1) cp) (Q ++ [q])) := own_ch6 HO1.out hc2 HCw.out
        have HW1s := hid HC1.out.size
        have HS12 := hid hc2.size
        have HNb : Hid (∀ j, Value.ownBlock (.slice (some ⟨g, 0, none⟩) (N + 1) cp) = some j → Value.ownBlock (.slice ao ps.length cap) ≠ some j) := fun j hj e => by
          have h1 := own_blk_lt HO1.out hj
          have h2 := own_blk HO2.out e
          omega
        clear o2 hb2 hf2 hc2 HPa HO1
        go_wp2
        go_loopw [3, 36] (fun v kv wy => ∃ k : Nat, k ≤ ps.length ∧ kv = .int .i64 k ∧ OwC6 wy w.heap.size M v (Q ++ [q] ++ ps.take k) ∧ OwC6 wy W1.heap.size M (.slice ao ps.length cap) ps ∧ Bd6 wy B T M into2 face cnt1 ∧ Ch6 M w wy ∧ W1.heap.size ≤ wy.heap.size ∧ (∀ j, v.ownBlock = some j → Value.ownBlock (.slice ao ps.length cap) ≠ some j) ∧ ∀ d ∈ ps.take k, cnt1 d ≠ -1) (fun _ kv _ => ps.length - (intOf kv).toNat)
        case atStart => exact ⟨0, Nat.zero_le _, rfl, by rw [List.take_zero, List.append_nil]; exact HV2.out, HO2.out, HB2.out, HC2.out, HS12.out, HNb.out, fun d hd => (by cases hd)⟩
        case round =>
          obtain ⟨k, hk, rfl, hov, hop, hby, hcy, hsy, hnb, hnm⟩ := hrel
          have HOv := hid hov
          have HOp := hid hop
          have HBy := hid hby
          have HCy := hid hcy
          have HNb2 := hid hnb
          have HNm := hid hnm
          by_cases hlt : k < ps.length
          · have hdk : decide ((k : Int) < (ps.length : Int)) = true := by simpa using hlt
            obtain ⟨p, hpk⟩ : ∃ p, ps[k]? = some p := ⟨_, List.getElem?_eq_getElem hlt⟩
            have hpm := List.mem_of_getElem? hpk
            obtain ⟨mp, hmp⟩ : ∃ m, M[p]? = some m := ⟨_, List.getElem?_eq_getElem (HPl.out p hpm)⟩
            obtain ⟨g2, cp2, hv, hge2, hcl1, hcl2, hcell⟩ := own_last6 hop hpk
            simp only [Value.slice.injEq] at hv
            obtain ⟨rfl, _, rfl⟩ := hv
            rw [clV_eq hmp] at hcell
            obtain ⟨kp, _, _, _, _, q3⟩ := hby.clc hmp
            obtain ⟨ao3, cap3, hv3, hcp31, hcp32⟩ := hov.shape
            have hlen3 : (Q ++ [q] ++ ps.take k).length = N + 1 + k := by rw [List.length_append, List.length_append, List.length_take, List.length_singleton, HN.out]; omega
            rw [hlen3] at hv3 hcp31
            subst hv3
            unfold maxLen at hcp32
            by_cases hm : cnt1 p = -1
            · rw [hm] at q3
              have HCi : Hid (∃ c, c < M.length ∧ root c = c ∧ Rch (M.map Nm.nd) root face c c) := ci_circle HL.out HOk.out HC'.out (d := p) (by rw [← HPs.out]; exact hpm) (by rw [HCn1.out] at hm; exact hm)
              clear hov hop hby hcy hnb hnm hpk hpm hmp hlen3 hm
              go_wp2
              go_ret
              exact ⟨false, into2, cnt1, rfl, HBy.out, HF2.out, HCy.out, fun _ => HCi.out, fun h => (by cases h)⟩
            · have hmb : (cnt1 p == -1) = false := by rw [beq_eq_false_iff_ne]; exact hm
              obtain ⟨WA, hWA⟩ : ∃ X, X = wr.alloc (.cells #[.pointer (some ⟨mp.cls, 0, none⟩)] 68) := ⟨_, rfl⟩
              have bA : Below wr.heap.size wr WA := by rw [hWA]; exact below_alloc _
              obtain ⟨v5, w5, hr5, o5, g5, d5⟩ := join_cls6 102 (ao := some ⟨wr.heap.size, 0, none⟩) (cap := 1) (ys := [p]) (own_ch6 hov (Ch6.of_below (M := M) bA) HCw.out) (.inr ⟨wr.heap.size, 0, rfl, fun j y hj => by
                match j, hj with
                | 0, hj =>
                  cases hj
                  rw [clV_eq hmp, hWA]
                  exact cell_new rfl
                | j + 1, hj => simp at hj⟩) (Nat.le_trans hcy.size bA.size) (by rw [hlen3]; simp only [List.length_cons, List.length_nil]; omega)
              have hnx : Q ++ [q] ++ ps.take (k + 1) = (Q ++ [q] ++ ps.take k) ++ [p] := by rw [take_get hpk, List.append_assoc (Q ++ [q])]
              rw [← hnx] at o5
              have hB5 : ∀ b, b < w.heap.size → w5.heap[b]? = wr.heap[b]? := fun b hb9 => by
                refine (g5.block b (Nat.lt_of_lt_of_le hb9 (Nat.le_trans hcy.size bA.size)) (fun e9 => ?_)).trans (bA.block b (Nat.lt_of_lt_of_le hb9 hcy.size))
                have := own_blk hov e9.symm
                omega
              have hpb : ∀ j, Value.ownBlock (.slice (some ⟨g2, 0, none⟩) ps.length cap) = some j → j < wr.heap.size := fun j hj => own_blk_lt hop hj
              have HO5p : Hid (OwC6 w5 W1.heap.size M (.slice (some ⟨g2, 0, none⟩) ps.length cap) ps) := own_grown6 (own_ch6 hop (Ch6.of_below (M := M) bA) (fun m hm9 => Nat.lt_of_lt_of_le (HCw.out m hm9) HW1s.out)) g5 (.inr fun e => by
                cases h9 : Value.ownBlock (.slice ao3 (N + 1 + k) cap3) with
                | none => rw [h9] at e; cases e
                | some j => exact hnb j h9 (e.trans h9))
              have HB5 := hid (hby.keep fun b hb9 => hB5 b (Nat.lt_of_lt_of_le hb9 HLo.out))
              have HC5 : Hid (Ch6 M w w5) := ⟨(g5.os.trans bA.os).trans hcy.os, (g5.tape.trans bA.tape).trans hcy.tape, (g5.output.trans bA.output).trans hcy.output, Nat.le_trans hcy.size (Nat.le_trans bA.size g5.size), fun b hb9 hm9 => (hB5 b hb9).trans (hcy.block b hb9 hm9)⟩
              have HS5 : Hid (W1.heap.size ≤ w5.heap.size) := Nat.le_trans hsy (Nat.le_trans bA.size g5.size)
              have HN5 : Hid (∀ j, v5.ownBlock = some j → Value.ownBlock (.slice (some ⟨g2, 0, none⟩) ps.length cap) ≠ some j) := fun j hj e => by
                rcases d5 with d5 | d5
                · exact hnb j (d5.symm.trans hj) e
                · rw [d5] at hj
                  have := hpb j e
                  have h8 := bA.size
                  cases hj
                  omega
              have HM5 : Hid (∀ d ∈ ps.take (k + 1), cnt1 d ≠ -1) := fun d hd => by
                rw [take_get hpk] at hd
                rcases List.mem_append.1 hd with hd | hd
                · exact hnm d hd
                · rw [List.mem_singleton] at hd
                  subst hd
                  exact hm
              have HR5 := hid hr5
              have HO5 := hid o5
              clear hov hop hby hcy hnb hnm hpk hpm hmp hlen3 hm hr5 o5 g5 d5 hnx hB5 hpb bA
              go_wp2_with (first
                | (rw [← hWA]; at_builtin; refine wpList_append_run rfl _ _ _ rfl _ _ rfl rfl HR5.out ?_))
              go_roundw
              case rel => exact ⟨k + 1, hlt, by go_num, HO5.out, HO5p.out, HB5.out, HC5.out, HS5.out, HN5.out, HM5.out⟩
              case measure => simp [intOf]; omega
          · have hdk : decide ((k : Int) < (ps.length : Int)) = false := by simpa using (show ¬ (k : Int) < (ps.length : Int) by omega)
            have hke : ps.take k = ps := List.take_of_length_le (by omega)
            rw [hke] at HOv HNm
            have HCi2 : Hid (CI M root face r cnt1 (Q ++ [q] ++ ps)) := by
              have h9 := ci_push HL.out HOk.out HC'.out H0.out (fun d hd => by have h8 := HNm.out d (by rw [HPs.out]; exact hd); rw [HCn1.out] at h8; exact h8)
              rw [← HPs.out, ← HCn1.out] at h9
              exact h9
            have HNz : Hid (nZero M.length cnt1 < nZero M.length cnt') := by
              have h9 := nZero_mark (n := M.length) HQl.out H0.out
              rw [← HCn1.out] at h9
              exact h9
            clear hov hop hby hcy hnb hnm hke
            go_wp2
            go_roundg (nZero M.length cnt1 * 1001 + (Q ++ [q] ++ ps).length)
            case measure => have h1 := HK1.out; have h2 := HNz.out; rw [List.length_append, List.length_append, List.length_singleton]; omega
            case rel => exact ⟨Q ++ [q] ++ ps, into2, cnt1, HOv.out, HBy.out, HF2.out, HCi2.out, HCy.out, Nat.le_refl _, by have h1 := HK1.out; have h2 := HNz.out; have h3 := HK2.out; rw [List.length_append, List.length_append, List.length_singleton]; omega⟩
      · have hne0 : (cnt' q != 0) = true := by rw [bne_iff_ne]; exact h0
        have HPt : Hid (cnt' q = -1 → ∀ p ∈ ptsN M root (face q), p ≠ q ∧ 0 ≤ cnt' p ∧ cnt' p ≤ 513) := fun h1 p hp => by
          obtain ⟨a1, a2⟩ := ci_parts hc' h1 p (pts_iff.1 hp)
          have hpl := (ptsN_lt HWf.out HRl.out (f := face q)).1 p hp
          have hpr : root p = p := by
            obtain ⟨s, xs, x, e1, e2, rfl⟩ := pts_iff.1 hp
            exact HOk.out.idem x (Nat.lt_trans (HL.out.ahead _ _ _ e1 x e2) (List.getElem?_eq_some_iff.1 e1).1)
          exact ⟨a1, by omega, (ci_pos hc' hpl hpr).1⟩
        have HFi := hid (finish_any hb' hf' (Nat.le_trans HLo.out hch.size) HWf.out HRl.out hmq HFq.out HPt.out)
        have H0 := hid h0
        clear how hb' hf' hc' hch hk1 hk2 hll hct hmq hk9 h0 hN hql hqr
        go_wp2_with fail
        refine HFi.out.mono ?_
        rintro e w2 ⟨rfl, into2, hb2, hf2, hc2⟩
        have HO2 : Hid (OwC6 w2 w.heap.size M (.slice (some ⟨g, 0, none⟩) N cp) Q) := own_ch6 HCt.out hc2 HCw.out
        have HC2 := hid (HCh.out.trans hc2)
        have HF2 := hid hf2
        have HNew : Hid (∃ cnt2, Bd6 w2 B T M into2 face cnt2 ∧ CI M root face r cnt2 Q ∧ nZero M.length cnt2 ≤ nZero M.length cnt') := by
          by_cases h1 : cnt' q = -1
          · rw [if_pos h1] at hb2
            have hci2 := ci_fin HL.out HOk.out HC'.out h1
            refine ⟨_, hb2, hci2, nZero_less ?_⟩
            have := (sumC_bnd (cnt := cnt') (ps := ptsN M root (face q)) (fun p hp => ⟨(HPt.out h1 p hp).2.1, (HPt.out h1 p hp).2.2⟩)).1
            omega
          · rw [if_neg h1, if_self6] at hb2
            exact ⟨cnt', hb2, ci_pop HC'.out H0.out h1, Nat.le_refl _⟩
        clear hb2 hf2 hc2 HFi hca x3 hw1 hw1' hne0
        go_wp2
        obtain ⟨cnt2, n1, n2, n3⟩ := HNew.out
        go_roundg (nZero M.length cnt2 * 1001 + Q.length)
        case measure => have := HK1.out; omega
        case rel => exact ⟨Q, into2, cnt2, by rw [← HN.out] at *; exact HO2.out, n1, HF2.out, n2, HC2.out, Nat.le_refl _, by have h1 := HK1.out; have h2 := HK2.out; omega⟩

end Go.Proofs.YtelacmijkbgliaaDoor

/- row of package unify walked. -/
namespace Go.Proofs.YtelacmijkbgliaaDoor
open Go.RowKit Go.Maps Go.BigFrame

/-- Classes and what they become. -/
def TmL (M : List Nm) (root face : Nat → Nat) (O : List Nat) (us : List (List Int)) : Prop := us.length = O.length ∧ ∀ (k c : Nat) (u : List Int), O[k]? = some c → us[k]? = some u → TmC (M.map Nm.nd) root face c u ∧ c < M.length ∧ root c = c

theorem TmL.app {M : List Nm} {root face : Nat → Nat} {O P : List Nat} {us vs : List (List Int)} (h : TmL M root face O us) (h' : TmL M root face P vs) : TmL M root face (O ++ P) (us ++ vs) := by
  refine ⟨by rw [List.length_append, List.length_append, h.1, h'.1], fun k c u hc hu => ?_⟩
  by_cases hk : k < O.length
  · rw [List.getElem?_append_left hk] at hc
    rw [List.getElem?_append_left (by rw [h.1]; exact hk)] at hu
    exact h.2 k c u hc hu
  · rw [List.getElem?_append_right (by omega)] at hc
    rw [List.getElem?_append_right (by rw [h.1]; omega), h.1] at hu
    exact h'.2 _ c u hc hu

theorem TmL.rev {M : List Nm} {root face : Nat → Nat} : ∀ {O : List Nat} {us : List (List Int)}, TmL M root face O us → TmL M root face O.reverse us.reverse
  | [], us, h => by
    have : us = [] := List.eq_nil_of_length_eq_zero (by simpa using h.1)
    subst this
    exact h
  | c :: O, us, h => by
    cases us with
    | nil => have := h.1; simp at this
    | cons u us =>
      have h1 : TmL M root face O us := ⟨by have := h.1; simpa using this, fun k x y hx hy => h.2 (k + 1) x y (by simpa using hx) (by simpa using hy)⟩
      have h2 : TmL M root face [c] [u] := ⟨rfl, fun k x y hx hy => by
        match k, hx, hy with
        | 0, hx, hy =>
          simp only [List.getElem?_cons_zero, Option.some.injEq] at hx hy
          subst hx hy
          exact h.2 0 c u rfl rfl
        | k + 1, hx, _ => simp at hx⟩
      rw [List.reverse_cons, List.reverse_cons]
      exact (TmL.rev h1).app h2

theorem TmL.pop {M : List Nm} {root face : Nat → Nat} {Q : List Nat} {q : Nat} {us : List (List Int)} (h : TmL M root face (Q ++ [q]) us) : ∃ us' u, us = us' ++ [u] ∧ TmL M root face Q us' ∧ TmC (M.map Nm.nd) root face q u ∧ q < M.length ∧ root q = q := by
  rcases snoc7 us with rfl | ⟨us', u, rfl⟩
  · have := h.1
    simp at this
  · have hl : us'.length = Q.length := by have := h.1; simpa using this
    refine ⟨us', u, rfl, ⟨hl, fun k c x hc hx => h.2 k c x (by rw [List.getElem?_append_left (List.getElem?_eq_some_iff.1 hc).1]; exact hc) (by rw [List.getElem?_append_left (List.getElem?_eq_some_iff.1 hx).1]; exact hx)⟩, h.2 Q.length q u (by simp) (by rw [← hl]; simp)⟩

/-- The parts of a class and what they become. -/
theorem tm_parts {sig : List Sy} {M : List Nm} (hL : NdOk sig (M.map Nm.nd)) {root face : Nat → Nat} (hc : ClOk (M.map Nm.nd) root face) {q f : Nat} {mf : Nm} {c : Int} {xs : List Nat} {u : List Int} (h : TmC (M.map Nm.nd) root face q u) (hf : face q = f) (hmf : M[f]? = some mf) (hn : mf.nd = .app c xs) : ∃ ts, u = c :: ts.flatten ∧ TmL M root face (xs.map root) ts := by
  have hLf : (M.map Nm.nd)[face q]? = some (Nd.app c xs) := by rw [hf, List.getElem?_map, hmf, Option.map_some, hn]
  cases h with
  | var h9 => rw [hLf] at h9; cases h9
  | app h9 hl ht =>
    rename_i c' xs' ts
    rw [hLf] at h9
    cases h9
    refine ⟨ts, rfl, by rw [List.length_map]; exact hl, fun k x t hx ht9 => ?_⟩
    rw [List.getElem?_map] at hx
    cases hy : xs[k]? with
    | none => rw [hy] at hx; cases hx
    | some y =>
      rw [hy] at hx
      cases hx
      have hyl := Nat.lt_trans (hL.ahead _ _ _ hLf y (List.mem_of_getElem? hy)) (List.getElem?_eq_some_iff.1 hLf).1
      exact ⟨ht k y t hy ht9, by have := hc.lt y hyl; rw [List.length_map] at this; exact this, hc.idem y hyl⟩

set_option maxRecDepth 100000 in
set_option maxHeartbeats 3200000 in
theorem uRow_any {sig : List Sy} (har : ArOk sig) {w : World} {B T : Nat} {M : List Nm} {into : Nat → Option Nat} {face : Nat → Nat} {cnt : Nat → Int} {root rk : Nat → Nat} {r : Nat} {mr : Nm} {t : List Int} (hsl : sig.length ≤ 9223372036854775807) (hL : NdOk sig (M.map Nm.nd)) (hok : ClOk (M.map Nm.nd) root face) (hlow : T ≤ w.heap.size) (hb : Bd6 w B T M into face cnt) (hf : Fr6 M.length into root rk) (hmr : M[r]? = some mr) (hrr : root r = r) (ht : TmC (M.map Nm.nd) root face r t) (htl : t.length ≤ 512) :
    Calls Tryd.prog 44 #[.pointer (some ⟨mr.cls, 0, none⟩)] w fun e w' => ∃ v' into', e = .returned v' ∧ OwI w' w.heap.size v' t ∧ Bd6 w' B T M into' face cnt ∧ Fr6 M.length into' root rk ∧ Ch6 M w w' := by
  have hlen : (M.map Nm.nd).length = M.length := by rw [List.length_map]
  obtain ⟨hwf, hsym⟩ := nd_wf har hL
  have hfl : ∀ i, i < M.length → root i = i → face i < M.length := fun i hi hr => by have := hok.face_lt i (by omega); rw [hr] at this; omega
  have hcw : ∀ m ∈ M, m.cls < w.heap.size := fun m hm => Nat.lt_of_lt_of_le (hb.low m hm).1.2 hlow
  have HB := hid hb
  have HF := hid hf
  have HLo := hid hlow
  have HL := hid hL
  have HOk := hid hok
  have HWf := hid hwf
  have HFl := hid hfl
  have HMr := hid hmr
  have HRr := hid hrr
  have HTm := hid ht
  have HCw := hid hcw
  have HTl := hid htl
  clear hb hf hlow hL hok hwf hsym hfl hmr har hlen hcw hrr ht htl
  go_enter Tryd.func44, Tryd.ntmps44
  go_wp2
  go_loopg [3, 4] t.length (fun g v x wr => ∃ (acc : List Int) (O : List Nat) (us : List (List Int)) (into' : Nat → Option Nat), OwI wr w.heap.size v acc ∧ OwC6 wr w.heap.size M x O ∧ TmL M root face O us ∧ t = acc ++ us.reverse.flatten ∧ us.flatten.length ≤ g ∧ (∀ j, v.ownBlock = some j → x.ownBlock ≠ some j) ∧ Bd6 wr B T M into' face cnt ∧ Fr6 M.length into' root rk ∧ Ch6 M w wr)
  case atStart =>
    have hbA : Below w.heap.size w (w.alloc (.cells #[.pointer (some ⟨mr.cls, 0, none⟩)] 68)) := below_alloc _
    refine ⟨[], [r], [t], into, ⟨fun k x hk => (by simp at hk), World.ownsRow_nil _ _ _ _⟩, ?_, ⟨rfl, fun k c u hc hu => ?_⟩, by simp, by simp, fun j hj => (by cases hj), HB.out.later hbA, HF.out, Ch6.of_below hbA⟩
    · refine ⟨rfl, .inr ⟨w.heap.size, 1, #[.pointer (some ⟨mr.cls, 0, none⟩)], rfl, Nat.le_refl _, heap_alloc_new _ _, Nat.le_refl _, by simp [maxLen], rfl, ?_⟩⟩
      simp only [List.map_cons, List.map_nil]
      rw [clV_eq HMr.out]
      rfl
    · match k, hc, hu with
      | 0, hc, hu =>
        simp only [List.getElem?_cons_zero, Option.some.injEq] at hc hu
        subst hc hu
        exact ⟨HTm.out, (List.getElem?_eq_some_iff.1 HMr.out).1, HRr.out⟩
      | k + 1, hc, _ => simp at hc
  case round =>
    obtain ⟨acc, O, us, into', hov, how, htm, hte, hgk, hap, hb', hf', hch⟩ := hrel
    have HOv := hid hov
    have HTe := hid hte
    have HAp := hid hap
    have HB' := hid hb'
    have HF' := hid hf'
    have HCh := hid hch
    rcases snoc7 O with rfl | ⟨Q, q, rfl⟩
    · obtain ⟨ao, cp, rfl⟩ : ∃ ao cp, u4 = .slice ao 0 cp := by
        rcases how.2 with ⟨h8, _⟩ | ⟨g8, c8, _, h8, _⟩
        · exact ⟨_, _, h8⟩
        · exact ⟨_, _, h8⟩
      have HEt : Hid (acc = t) := by
        have h9 : us = [] := List.eq_nil_of_length_eq_zero (by simpa using htm.1)
        subst h9
        show _ = _
        rw [hte]
        simp
      rw [HEt.out] at HOv
      clear hov how htm hte hgk hap hb' hf' hch
      go_wp2
      go_ret
      exact ⟨_, into', rfl, HOv.out, HB'.out, HF'.out, HCh.out⟩
    · obtain ⟨us', u, rfl, htq, htu, hql, hqr⟩ := htm.pop
      obtain ⟨mq, hmq⟩ : ∃ m, M[q]? = some m := ⟨_, List.getElem?_eq_getElem hql⟩
      obtain ⟨g, cp, hv, hge, hcp1, hcp2, hca⟩ := own_last6 how (k := Q.length) (x := q) (by simp)
      have hll : (Q ++ [q]).length = Q.length + 1 := by simp
      rw [hll] at hv hcp1
      subst hv
      have hct := own_cut6 (k := Q.length) (by rw [hll]; exact how) (by rw [hll]; omega)
      rw [List.take_left] at hct
      have hfq := HFl.out q hql hqr
      obtain ⟨mf, hmf⟩ : ∃ m, M[face q]? = some m := ⟨_, List.getElem?_eq_getElem hfq⟩
      have hposs : ∀ (O : List Nat) (us : List (List Int)), TmL M root face O us → O.length ≤ us.flatten.length := fun O => by
        induction O with
        | nil => intro us _; simp
        | cons c O ih =>
          intro us h
          cases us with
          | nil => have := h.1; simp at this
          | cons x us =>
            have h1 := ih us ⟨by have := h.1; simpa using this, fun k a b ha hb => h.2 (k + 1) a b (by simpa using ha) (by simpa using hb)⟩
            have h2 := tm_pos (h.2 0 c x rfl rfl).1
            rw [List.flatten_cons, List.length_append, List.length_cons]
            omega
      have hQl : Q.length ≤ us'.flatten.length := hposs Q us' htq
      have htot : acc.length + (u.length + us'.flatten.length) = t.length := by
        rw [hte, List.length_append, List.reverse_append, List.flatten_append, List.length_append]
        simp only [List.reverse_cons, List.reverse_nil, List.nil_append, List.flatten_cons, List.flatten_nil, List.append_nil]
        rw [List.length_flatten, List.length_flatten, List.map_reverse, List.sum_reverse]
      have htl9 := HTl.out
      have hupos := tm_pos htu
      have hgk2 : us'.flatten.length + u.length ≤ gk := by rw [List.flatten_append, List.length_append] at hgk; simpa using hgk
      obtain ⟨N, hN⟩ : ∃ N, N = Q.length := ⟨_, rfl⟩
      rw [← hN] at hca hct hcp1 hap HAp ⊢
      have hNb : N ≤ 512 := by omega
      have hw1 : IntKind.i64.wrap ((N : Int) + 1 - 1) = (N : Int) := by rw [IntWalk.i64_in _ ⟨by omega, by omega⟩]; omega
      have hw1' : IntKind.i64.wrap (N : Int) = (N : Int) := IntWalk.i64_in _ ⟨by omega, by omega⟩
      have hxc : N ≤ cp := by omega
      rw [clV_eq hmq] at hca
      obtain ⟨k9, _, _, _, x2, _⟩ := hb'.clc hmq
      obtain ⟨av, ac, hav, hac1, hac2⟩ := hov.shape
      subst hav
      unfold maxLen at hac2
      have HTeq : Hid (t = acc ++ (u ++ us'.reverse.flatten)) := by
        show _ = _
        rw [hte, List.reverse_append, List.flatten_append]
        simp
      cases hn : mf.nd with
      | var n =>
        obtain ⟨y0, _⟩ := hb'.var hmf hn
        rw [ndI_var hmf hn] at x2
        have ha := as_uvar (.pointer (some ⟨mf.blk, 0, none⟩))
        have hLf : (M.map Nm.nd)[face q]? = some (Nd.var n) := by rw [List.getElem?_map, hmf, Option.map_some, hn]
        have hu : u = [-1 - n] := by
          cases htu with
          | var h9 => rw [hLf] at h9; cases h9; rfl
          | app h9 _ _ => rw [hLf] at h9; cases h9
        have hnb := HL.out.num _ _ hLf
        have hw2 : IntKind.i64.wrap (-1 - n) = -1 - n := IntWalk.i64_in _ ⟨by omega, by omega⟩
        obtain ⟨v6, w6, hr6, o6, g6, d6⟩ := join_one 23 (c := -1 - n) hov (by omega) (by omega) hch.size (by omega)
        have bA : Below wr.heap.size wr (wr.alloc (.cells #[.int .i64 (-1 - n)] 3)) := below_alloc _
        have hgl : g < wr.heap.size := own_blk_lt how rfl
        have hgv : Value.ownBlock (.slice av acc.length ac) ≠ some g := fun e => hap g e rfl
        have hB6 : ∀ b, b < w.heap.size → w6.heap[b]? = wr.heap[b]? := fun b hb9 => by
          refine (g6.block b (Nat.lt_of_lt_of_le hb9 (Nat.le_trans hch.size bA.size)) (fun e9 => ?_)).trans (bA.block b (Nat.lt_of_lt_of_le hb9 hch.size))
          have := own_blk hov.2 e9.symm
          omega
        have hx6 : OwC6 w6 w.heap.size M (.slice (some ⟨g, 0, none⟩) N cp) Q := own_grown6 (own_ch6 hct (Ch6.of_below (M := M) bA) HCw.out) g6 (.inr fun e => hgv e.symm)
        have hap6 : v6.ownBlock ≠ some g := fun e => by
          rcases d6 with d6 | d6
          · exact hgv (d6.symm.trans e)
          · rw [d6] at e
            have h8 := bA.size
            cases e
            omega
        have hb6 := hb'.keep fun b hb9 => hB6 b (Nat.lt_of_lt_of_le hb9 HLo.out)
        have hc6 : Ch6 M w w6 := ⟨(g6.os.trans bA.os).trans hch.os, (g6.tape.trans bA.tape).trans hch.tape, (g6.output.trans bA.output).trans hch.output, Nat.le_trans hch.size (Nat.le_trans bA.size g6.size), fun b hb9 hm9 => (hB6 b hb9).trans (hch.block b hb9 hm9)⟩
        have HR6 := hid hr6
        have HO6 := hid o6
        have HX6 := hid hx6
        have HA6 := hid hap6
        have HB6 := hid hb6
        have HC6 := hid hc6
        have HTq := hid htq
        have HT2 : Hid (t = (acc ++ [-1 - n]) ++ us'.reverse.flatten) := by show _ = _; rw [HTeq.out, hu, List.append_assoc]
        have HGk : Hid (us'.flatten.length < gk) := by show _ < _; omega
        clear hov how htm hte hgk hap hb' hf' hch hct hmq hmf hn hLf hu htu htq hr6 o6 g6 d6 hB6 hx6 hap6 hb6 hc6 bA hgv hposs hQl htot hgk2 hN hll HTe HAp hupos hql hqr hfq
        go_wp2_with (first
          | (at_builtin; refine wpList_append_run rfl _ _ _ rfl _ _ rfl rfl HR6.out ?_))
        go_roundg us'.flatten.length
        case measure => exact HGk.out
        case rel => exact ⟨acc ++ [-1 - n], Q, us', into', HO6.out, HX6.out, HTq.out, HT2.out, Nat.le_refl _, fun j hj e => HA6.out (hj.trans e.symm), HB6.out, HF'.out, HC6.out⟩
      | app c xs =>
        obtain ⟨ao, cap, ⟨y0, _, _⟩, _⟩ := hb'.app hmf hn
        rw [ndI_app hmf hn] at x2
        have ha := as_unot (.pointer (some ⟨mf.blk, 0, none⟩))
        have ha2 := as_uapp (.pointer (some ⟨mf.blk, 0, none⟩))
        have hLf : (M.map Nm.nd)[face q]? = some (Nd.app c xs) := by rw [List.getElem?_map, hmf, Option.map_some, hn]
        obtain ⟨hs0, hs1, _⟩ := HL.out.sym _ _ _ hLf
        obtain ⟨ts, hu, hts⟩ := tm_parts HL.out HOk.out htu rfl hmf hn
        have hpe : ptsN M root (face q) = xs.map root := by unfold ptsN; rw [hmf]; simp only [Option.map_some, hn]
        obtain ⟨v6, w6, hr6, o6, g6, d6⟩ := join_one 23 (c := c) hov (by omega) (by omega) hch.size (by omega)
        have bA : Below wr.heap.size wr (wr.alloc (.cells #[.int .i64 c] 3)) := below_alloc _
        have hgl : g < wr.heap.size := own_blk_lt how rfl
        have hgv : Value.ownBlock (.slice av acc.length ac) ≠ some g := fun e => hap g e rfl
        have hB6 : ∀ b, b < w.heap.size → w6.heap[b]? = wr.heap[b]? := fun b hb9 => by
          refine (g6.block b (Nat.lt_of_lt_of_le hb9 (Nat.le_trans hch.size bA.size)) (fun e9 => ?_)).trans (bA.block b (Nat.lt_of_lt_of_le hb9 hch.size))
          have := own_blk hov.2 e9.symm
          omega
        have hx6 : OwC6 w6 w.heap.size M (.slice (some ⟨g, 0, none⟩) N cp) Q := own_grown6 (own_ch6 hct (Ch6.of_below (M := M) bA) HCw.out) g6 (.inr fun e => hgv e.symm)
        have hap6 : v6.ownBlock ≠ some g := fun e => by
          rcases d6 with d6 | d6
          · exact hgv (d6.symm.trans e)
          · rw [d6] at e
            have h8 := bA.size
            cases e
            omega
        have hb6 := hb'.keep fun b hb9 => hB6 b (Nat.lt_of_lt_of_le hb9 HLo.out)
        have hc6 : Ch6 M w w6 := ⟨(g6.os.trans bA.os).trans hch.os, (g6.tape.trans bA.tape).trans hch.tape, (g6.output.trans bA.output).trans hch.output, Nat.le_trans hch.size (Nat.le_trans bA.size g6.size), fun b hb9 hm9 => (hB6 b hb9).trans (hch.block b hb9 hm9)⟩
        have HR6 := hid hr6
        have HNQ := hid hN
        have HGe := hid hge
        have HPa := hid (parts_any hb6 hf' (Nat.le_trans HLo.out hc6.size) HWf.out hmq hfq)
        rw [hpe] at HPa
        obtain ⟨ps, hps⟩ : ∃ ps, ps = xs.map root := ⟨_, rfl⟩
        rw [← hps] at HPa hts
        have hpsl : ps.length ≤ 512 := by
          have h1 := hposs ps ts hts
          have h2 : u.length = 1 + ts.flatten.length := by rw [hu, List.length_cons, Nat.add_comm]
          omega
        have hul : u.length = 1 + ts.flatten.length := by rw [hu, List.length_cons, Nat.add_comm]
        have HO6 := hid o6
        have HX6 := hid hx6
        have HA6 := hid hap6
        have HC6 := hid hc6
        have HTq := hid htq
        have HTs := hid hts
        have HPl : Hid (∀ p ∈ ps, p < M.length) := fun p hp => by
          obtain ⟨k, hk⟩ := List.getElem?_of_mem hp
          have hkl := (List.getElem?_eq_some_iff.1 hk).1
          exact (hts.2 k p _ hk (List.getElem?_eq_getElem (by rw [hts.1]; exact hkl))).2.1
        have HT2 : Hid (t = (acc ++ [c]) ++ (us' ++ ts.reverse).reverse.flatten) := by show _ = _; rw [HTeq.out, hu, List.reverse_append, List.reverse_reverse, List.flatten_append]; simp
        have HGk : Hid ((us' ++ ts.reverse).flatten.length < gk) := by
          show _ < _
          rw [List.flatten_append, List.length_append, show ts.reverse.flatten.length = ts.flatten.length by rw [List.length_flatten, List.length_flatten, List.map_reverse, List.sum_reverse]]
          omega
        clear hov how htm hte hgk hap hb' hf' hch hct hmq hmf hn hLf hu htu htq hr6 o6 g6 d6 hB6 hx6 hap6 hb6 hc6 bA hgv hposs hQl htot hgk2 hN hll HTe HAp hupos hql hqr hfq hts hpe hps hul hs0 hs1
        go_wp2_with (first
          | (at_builtin; refine wpList_append_run rfl _ _ _ rfl _ _ rfl rfl HR6.out ?_))
        refine HPa.out.mono ?_
        rintro e w8 ⟨v8, into8, rfl, o8, hb8, hf8, hc8⟩
        have HRv := hid (reverseC6_any v8 (ps.map (clV M)) w6.heap.size w8 (by rw [List.length_map]; exact o8) (fun u hu => by obtain ⟨y, _, rfl⟩ := List.mem_map.1 hu; exact ⟨_, rfl⟩))
        have HO8 := hid o8
        have HB8 := hid hb8
        have HF8 := hid hf8
        have HC8 := hid hc8
        obtain ⟨ao8, cap8, hv8, hcap81, hcap82⟩ := o8.shape
        subst hv8
        clear o8 hb8 hf8 hc8 HPa
        go_wp2_with fail
        refine HRv.out.mono ?_
        rintro e w9 ⟨rfl, o9, g9⟩
        have o9' : OwC6 w9 w6.heap.size M (.slice ao8 ps.length cap8) ps.reverse := by
          unfold OwC6
          rw [List.length_reverse, List.map_reverse]
          rw [List.length_map] at o9
          exact o9
        have h68 := HC8.out.size
        have hv6l : ∀ j, v6.ownBlock = some j → j < w6.heap.size := fun j hj => own_blk_lt HO6.out.2 hj
        have hg6l : g < w6.heap.size := own_blk_lt HX6.out rfl
        have hv8g : ∀ j, Value.ownBlock (.slice ao8 ps.length cap8) = some j → w6.heap.size ≤ j := fun j hj => own_blk HO8.out hj
        have x9 : OwC6 w9 w.heap.size M (.slice (some ⟨g, 0, none⟩) N cp) Q := own_grown6 (own_ch6 HX6.out HC8.out HCw.out) g9 (.inr fun e => by have := hv8g g e.symm; omega)
        have i9 : OwI w9 w.heap.size v6 (acc ++ [c]) := ⟨HO6.out.1, own_grown6 (own_ch6 HO6.out.2 HC8.out HCw.out) g9 (by
          cases h9 : v6.ownBlock with
          | none => exact .inl rfl
          | some j => exact .inr fun e => by have h1 := hv6l j h9; have h2 := hv8g j e.symm; omega)⟩
        have hB9 : ∀ b, b < w6.heap.size → w9.heap[b]? = w8.heap[b]? := fun b hb9 => g9.block b (Nat.lt_of_lt_of_le hb9 h68) (fun e9 => by have := hv8g b e9.symm; omega)
        have hcell9 : ps.reverse = [] ∨ ∃ g' off, ao8 = some ⟨g', off, none⟩ ∧ ∀ (j y : Nat), ps.reverse[j]? = some y → w9.cell? ⟨g', off + j, none⟩ = some (clV M y) := by
          by_cases h0 : ps.reverse = []
          · exact .inl h0
          · right
            obtain ⟨y0', hy0⟩ : ∃ y, ps.reverse[0]? = some y := ⟨_, List.getElem?_eq_getElem (by cases hq : ps.reverse with | nil => exact absurd hq h0 | cons a l => simp)⟩
            obtain ⟨g', cp', hv', _⟩ := own_last6 o9' hy0
            simp only [Value.slice.injEq] at hv'
            refine ⟨g', 0, hv'.1, fun j y hj => ?_⟩
            obtain ⟨g'', cp'', hv'', _, _, _, hc''⟩ := own_last6 o9' hj
            simp only [Value.slice.injEq] at hv''
            rw [hv'.1] at hv''
            simp only [Option.some.injEq, Addr.mk.injEq, and_true] at hv''
            rw [Nat.zero_add, hv''.1]
            exact hc''
        obtain ⟨v10, w10, hr10, o10, g10, d10⟩ := join_cls6 102 (ys := ps.reverse) (ao := ao8) (cap := cap8) x9 hcell9 (Nat.le_trans HC6.out.size (Nat.le_trans h68 g9.size)) (by rw [List.length_reverse]; have := HNQ.out; omega)
        have hB10 : ∀ b, b < w.heap.size → w10.heap[b]? = w8.heap[b]? := fun b hb9 => by
          have h1 := HC6.out.size
          have h2 := g9.size
          refine (g10.block b (by omega) (fun e9 => ?_)).trans (hB9 b (by omega))
          have h3 : g = b := Option.some.inj e9.symm
          have h4 := HGe.out
          omega
        have HB10 := hid (HB8.out.keep fun b hb9 => hB10 b (Nat.lt_of_lt_of_le hb9 HLo.out))
        have hc8 := HC6.out.trans HC8.out
        have HC10 : Hid (Ch6 M w w10) := ⟨(g10.os.trans g9.os).trans hc8.os, (g10.tape.trans g9.tape).trans hc8.tape, (g10.output.trans g9.output).trans hc8.output, Nat.le_trans hc8.size (Nat.le_trans g9.size g10.size), fun b hb9 hm9 => (hB10 b hb9).trans (hc8.block b hb9 hm9)⟩
        have HO10 : Hid (OwI w10 w.heap.size v6 (acc ++ [c])) := ⟨i9.1, own_grown6 i9.2 g10 (.inr fun e => HA6.out e)⟩
        have HA10 : Hid (∀ j, v6.ownBlock = some j → v10.ownBlock ≠ some j) := fun j hj e => by
          rcases d10 with d10 | d10
          · exact HA6.out (hj.trans (e.symm.trans d10))
          · have h1 := hv6l j hj
            have h2 := g9.size
            rw [d10] at e
            cases e
            omega
        have HTL := hid (HTq.out.app HTs.out.rev)
        have HR10 := hid hr10
        have HX10 := hid o10
        rw [List.length_reverse] at HR10
        clear hr10 o10 g10 d10 hB10 hc8 i9 x9 hB9 hcell9 o9 o9' g9 h68 hv6l hg6l hv8g HRv
        go_wp2_with (first
          | (at_builtin; refine wpList_append_run rfl _ _ _ rfl _ _ rfl rfl HR10.out ?_))
        go_roundg (us' ++ ts.reverse).flatten.length
        case measure => exact HGk.out
        case rel => exact ⟨acc ++ [c], Q ++ ps.reverse, us' ++ ts.reverse, into8, HO10.out, HX10.out, HTL.out, HT2.out, Nat.le_refl _, HA10.out, HB10.out, HF8.out, HC10.out⟩

end Go.Proofs.YtelacmijkbgliaaDoor

/- New nodes of package unify: newClass, newVariable, newApplication, variableOf walked. -/
namespace Go.Proofs.YtelacmijkbgliaaDoor
open Go.RowKit Go.Maps Go.BigFrame

set_option maxRecDepth 100000 in
theorem newClass_any (w : World) (ty : TypeId) (b : Nat) :
    Calls Tryd.prog 79 #[.iface ty (.pointer (some ⟨b, 0, none⟩))] w fun e w' => e = .returned (.pointer (some ⟨w.heap.size, 0, none⟩)) ∧ w' = w.alloc (.cells #[.pointer none, .int .i64 1, .iface ty (.pointer (some ⟨b, 0, none⟩)), .int .i64 0] 76) := by
  go_enter Tryd.func79, Tryd.ntmps79
  go_wp2
  go_ret
  exact ⟨rfl, rfl⟩

/-- The world behind two new blocks. -/
theorem two_new (w : World) (o1 o2 : Obj) : ((w.alloc o1).alloc o2).heap.size = w.heap.size + 2 ∧ ((w.alloc o1).alloc o2).heap[w.heap.size]? = some o1 ∧ ((w.alloc o1).alloc o2).heap[w.heap.size + 1]? = some o2 ∧ Below w.heap.size w ((w.alloc o1).alloc o2) := by
  refine ⟨by simp, ?_, ?_, below_step (below_alloc _) (below_alloc _)⟩
  · rw [heap_alloc_old _ _ (by rw [World.size_alloc]; omega)]
    exact heap_alloc_new _ _
  · have := heap_alloc_new (w.alloc o1) o2
    rw [World.size_alloc] at this
    exact this

set_option maxRecDepth 100000 in
set_option maxHeartbeats 800000 in
theorem newVariable_any (w : World) (n : Int) :
    Calls Tryd.prog 78 #[.int .i64 n] w fun e w' => e = .returned (.pointer (some ⟨w.heap.size, 0, none⟩)) ∧ w'.heap.size = w.heap.size + 2 ∧ w'.heap[w.heap.size]? = some (.cells #[.int .i64 n, .pointer (some ⟨w.heap.size + 1, 0, none⟩)] 106) ∧ w'.heap[w.heap.size + 1]? = some (.cells #[.pointer none, .int .i64 1, .iface 74 (.pointer (some ⟨w.heap.size, 0, none⟩)), .int .i64 0] 76) ∧ Below w.heap.size w w' := by
  have HN := hid (newClass_any (w.alloc (.cells #[.int .i64 n, .pointer none] 106)) 74 w.heap.size)
  go_enter Tryd.func78, Tryd.ntmps78
  go_wp2_with fail
  refine HN.out.mono ?_
  rintro e w1 ⟨rfl, rfl⟩
  rw [World.size_alloc]
  go_wp2
  go_ret
  exact ⟨rfl, two_new _ _ _⟩

set_option maxRecDepth 100000 in
set_option maxHeartbeats 800000 in
theorem newApplication_any (w : World) (c : Int) (ao : Option Addr) (n cap : Nat) :
    Calls Tryd.prog 61 #[.int .i64 c, .slice ao n cap] w fun e w' => e = .returned (.pointer (some ⟨w.heap.size, 0, none⟩)) ∧ w'.heap.size = w.heap.size + 2 ∧ w'.heap[w.heap.size]? = some (.cells #[.int .i64 c, .slice ao n cap, .pointer (some ⟨w.heap.size + 1, 0, none⟩)] 109) ∧ w'.heap[w.heap.size + 1]? = some (.cells #[.pointer none, .int .i64 1, .iface 94 (.pointer (some ⟨w.heap.size, 0, none⟩)), .int .i64 0] 76) ∧ Below w.heap.size w w' := by
  have HN := hid (newClass_any (w.alloc (.cells #[.int .i64 c, .slice ao n cap, .pointer none] 109)) 94 w.heap.size)
  go_enter Tryd.func61, Tryd.ntmps61
  go_wp2_with fail
  refine HN.out.mono ?_
  rintro e w1 ⟨rfl, rfl⟩
  rw [World.size_alloc]
  go_wp2
  go_ret
  exact ⟨rfl, two_new _ _ _⟩

end Go.Proofs.YtelacmijkbgliaaDoor

/- slices.Clone at trees of package unify; variableOf walked. -/
namespace Go.Proofs.YtelacmijkbgliaaDoor
open Go.RowKit Go.Maps Go.BigFrame

theorem info_tree6 : (Tryd.prog.info? 64).map (fun i => (i.zero, i.size, i.bytes)) = some (some .nilIface, 1, 16) := by kernel_rfl

theorem under_trees6 : Tryd.prog.underlying 87 = some (.slice 64) := by kernel_rfl

theorem under_vars6 : Tryd.prog.underlying 43 = some (.map 3 74) := by kernel_rfl

theorem zero_uvar6 (w : World) : (zeroValue 74).run Tryd.prog w = .ok (.pointer none) w := by kernel_rfl

set_option maxRecDepth 100000 in
set_option maxHeartbeats 800000 in
theorem cloneT6_any (v : Value) (vals : List Value) (w : World) (h : RdV w v vals) (h1 : ∀ u ∈ vals, u.oneCell' = true) (hl : vals.length * 16 ≤ 140737488355328) :
    Calls Tryd.prog 59 #[v] w fun e w' => ∃ v', e = .returned v' ∧ w'.ownsRow w.heap.size 64 1 v' vals.length vals ∧ Below w.heap.size w w' := by
  obtain ⟨i0, hi, hz0, hz1, hz2⟩ := info_parts info_tree6
  have hq : ∀ (W : World) (a : Option Addr) (n c n' c' : Nat), (binOp .eql 87 (.slice a n c) (.slice none n' c')).run Tryd.prog W = .ok (.bool a.isNone) W := fun W a n c n' c' => Lib.run_eql_slice_nil W _ _ a n c n' c' under_trees6
  rcases h with ⟨rfl, rfl⟩ | ⟨g, off, cap, rfl, hc⟩
  · go_enter Tryd.func59, Tryd.ntmps59
    go_wp2
    go_ret
    exact ⟨_, rfl, World.ownsRow_nil _ _ _ _, Below.refl _ _⟩
  · obtain ⟨v', w', hr, ho, hb⟩ : ∃ v' w', (Builtin.append_ #[87, 87] 87 #[.slice (some ⟨w.heap.size, 0, none⟩) 0 0, .slice (some ⟨g, off, none⟩) vals.length cap]).run Tryd.prog (w.alloc (.cells #[] 64)) = .ok v' w' ∧ w'.ownsRow w.heap.size 64 1 v' vals.length vals ∧ Below w.heap.size w w' := by
      by_cases h0 : vals.length = 0
      · obtain rfl : vals = [] := List.eq_nil_of_length_eq_zero h0
        exact ⟨_, _, run_append_nothing _ 87 87 87 64 i0 under_trees6 hi _ 0 0 (Nat.le_refl _) _ (Src.ofSlice _ under_trees6 _ 0 _ [] (by simp) (fun j u hj => (by simp at hj)) (fun u hu => (by simp at hu))), empty_row _ (Nat.le_refl _), below_alloc _⟩
      · obtain ⟨v', w', hr, h2, h3, _, _⟩ := run_append_own_at (P := Tryd.prog) (w.alloc (.cells #[] 64)) w.heap.size 87 87 64 i0 _ 1 16 under_trees6 hi hz0 hz1 hz2 rfl (by decide) _ 0 [] (empty_row _ (Nat.le_refl _)) ⟨g, off, none⟩ vals.length cap vals (by simp)
          (fun j u hj => by rw [Addr.add_lit]; exact (Kp.of_below (below_alloc _)).cell _ _ (hc j u hj)) h1 (by unfold maxLen; omega) (by omega) (below_alloc _).size
        rw [Nat.zero_add, List.nil_append] at h2
        exact ⟨v', w', hr, h2, grown_below (below_alloc _) h3 (Nat.le_refl _)⟩
    have HR := hid hr
    have HO := hid ho
    have HB := hid hb
    clear hr ho hb hc
    go_enter Tryd.func59, Tryd.ntmps59
    go_wp2_with (first
      | (at_builtin; refine wpList_append_runT rfl _ _ _ rfl _ _ rfl rfl HR.out ?_))
    go_ret
    exact ⟨_, rfl, HO.out, HB.out⟩

set_option maxRecDepth 100000 in
set_option maxHeartbeats 1600000 in
/-- The node of a variable: as the map has it, or a new one. -/
theorem variableOf_any (b : Nat) (L : List (Int × Value)) (n : Int) (w : World) (hm : MapV w b L) (h1 : -9223372036854775808 ≤ n) (h2 : n ≤ 9223372036854775807) (hL : L.length < maxLen) (hp : ∀ v, L.lookup n = some v → ∃ p, v = .pointer p) :
    Calls Tryd.prog 58 #[.map (some b), .int .i64 n] w fun e w' => (∃ v, L.lookup n = some v ∧ e = .returned v ∧ w' = w) ∨ (L.lookup n = none ∧ e = .returned (.pointer (some ⟨w.heap.size, 0, none⟩)) ∧ MapV w' b ((n, .pointer (some ⟨w.heap.size, 0, none⟩)) :: L) ∧ w.heap.size + 2 ≤ w'.heap.size ∧ w'.heap[w.heap.size]? = some (.cells #[.int .i64 n, .pointer (some ⟨w.heap.size + 1, 0, none⟩)] 106) ∧ w'.heap[w.heap.size + 1]? = some (.cells #[.pointer none, .int .i64 1, .iface 74 (.pointer (some ⟨w.heap.size, 0, none⟩)), .int .i64 0] 76) ∧ w.grownBy w' (some b)) := by
  have hl := hm.look under_vars6 (zero_uvar6 w) h1 h2
  have HM := hid hm
  have HV := hid (newVariable_any w n)
  clear hm
  cases hk : L.lookup n with
  | some v =>
    obtain ⟨p, rfl⟩ := hp v hk
    rw [hk] at hl
    simp only [Option.getD, Option.isSome] at hl
    have HL := hid hl
    clear hl hp
    go_enter Tryd.func58, Tryd.ntmps58
    go_wp2_with (first
      | (at_lookup; refine wpList_lookup_run rfl _ _ _ _ rfl _ _ _ rfl rfl HL.out ?_))
    go_ret
    exact .inl ⟨_, rfl, rfl, rfl⟩
  | none =>
    rw [hk] at hl
    simp only [Option.getD, Option.isSome] at hl
    have HL := hid hl
    clear hl hp
    go_enter Tryd.func58, Tryd.ntmps58
    go_wp2_with (first
      | (at_lookup; refine wpList_lookup_run rfl _ _ _ _ rfl _ _ _ rfl rfl HL.out ?_)
      | fail)
    refine HV.out.mono ?_
    rintro e w1 ⟨rfl, hs, hc0, hc1, hb⟩
    obtain ⟨w2, hr, hm2, hg⟩ := (HM.out.later hb).store under_vars6 h1 h2 hk hL (.pointer (some ⟨w.heap.size, 0, none⟩))
    have hbl := HM.out.lt
    have HR := hid hr
    have HA : Hid (MapV w2 b ((n, .pointer (some ⟨w.heap.size, 0, none⟩)) :: L) ∧ w.heap.size + 2 ≤ w2.heap.size ∧ w2.heap[w.heap.size]? = some (.cells #[.int .i64 n, .pointer (some ⟨w.heap.size + 1, 0, none⟩)] 106) ∧ w2.heap[w.heap.size + 1]? = some (.cells #[.pointer none, .int .i64 1, .iface 74 (.pointer (some ⟨w.heap.size, 0, none⟩)), .int .i64 0] 76) ∧ w.grownBy w2 (some b)) := by
      have hg1 := grown_of_below hb (some b)
      refine ⟨hm2, by have := hg.size; omega, (hg.block _ (by omega) (by simp; omega)).trans hc0, (hg.block _ (by omega) (by simp; omega)).trans hc1, ?_⟩
      exact ⟨hg.os.trans hg1.os, hg.tape.trans hg1.tape, hg.output.trans hg1.output, Nat.le_trans hg1.size hg.size, fun i hi hne => (hg.block i (Nat.lt_of_lt_of_le hi hg1.size) hne).trans (hg1.block i hi hne)⟩
    clear hr hm2 hg hc0 hc1 hb hs
    go_wp2_with (first
      | (at_mapUpdate; refine wpList_mapUpdate_run rfl _ _ _ _ rfl _ _ _ rfl rfl rfl HR.out ?_))
    go_ret
    exact .inr ⟨trivial, rfl, HA.out⟩

end Go.Proofs.YtelacmijkbgliaaDoor

/- The board of package unify while it is grown. -/
namespace Go.Proofs.YtelacmijkbgliaaDoor
open Go.RowKit Go.Maps Go.BigFrame

/-- The world with nothing in the blocks outside of A. -/
def only (A : Nat → Bool) (w : World) : World := { w with heap := w.heap.mapIdx fun g o => if A g then o else .cells #[] 0 }

theorem only_block {A : Nat → Bool} {w : World} {g : Nat} (h : A g = true) : (only A w).heap[g]? = w.heap[g]? := by
  simp only [only, Array.getElem?_mapIdx, h, if_true]
  cases w.heap[g]? <;> rfl

theorem only_not {A : Nat → Bool} {w : World} {a : Addr} (h : ¬ A a.block = true) : (only A w).cell? a = none := by
  have hf : A a.block = false := by simpa using h
  unfold World.cell?
  simp only [only, Array.getElem?_mapIdx]
  cases w.heap[a.block]? with
  | none => rfl
  | some o => simp [hf]

theorem only_cell {A : Nat → Bool} {w : World} {a : Addr} (h : A a.block = true) : (only A w).cell? a = w.cell? a := by
  unfold World.cell?
  rw [only_block h]

theorem only_full {A : Nat → Bool} {w : World} {b : Nat} {cs : Array Value} {t : TypeId} (h : (only A w).heap[b]? = some (.cells cs t)) (hn : cs.size ≠ 0) : A b = true := by
  by_cases hA : A b = true
  · exact hA
  · exfalso
    have hf : A b = false := by simpa using hA
    simp only [only, Array.getElem?_mapIdx] at h
    cases hw : w.heap[b]? with
    | none => rw [hw] at h; cases h
    | some o =>
      rw [hw] at h
      simp only [hf, Option.map_some, Option.some.injEq] at h
      cases h
      exact hn rfl

theorem cell_is6 {w : World} {g o : Nat} {v : Value} (h : w.cell? ⟨g, o, none⟩ = some v) : ∃ o : Obj, w.heap[g]? = some o ∧ o.isCells = true := by
  unfold World.cell? at h
  cases hw : w.heap[g]? with
  | none => simp only [hw] at h; cases h
  | some ob =>
    cases ob with
    | cells => exact ⟨_, rfl, rfl⟩
    | _ => simp only [hw] at h; cases h

/-- Of the blocks below the top those of A alone are read. -/
theorem Bd6.only_keep {A A' : Nat → Bool} {w w' : World} {B T T' : Nat} {M : List Nm} {into : Nat → Option Nat} {face : Nat → Nat} {cnt : Nat → Int} (h : Bd6 (only A w) B T M into face cnt) (hT : T ≤ T') (hb : ∀ (b : Nat) (o : Obj), b < T → A b = true → w.heap[b]? = some o → o.isCells = true → A' b = true ∧ w'.heap[b]? = some o) : Bd6 (only A' w') B T' M into face cnt := by
  have hk : ∀ (b : Nat) (cs : Array Value) (t : TypeId), b < T → (only A w).heap[b]? = some (.cells cs t) → cs.size ≠ 0 → (only A' w').heap[b]? = some (.cells cs t) := fun b cs t hbT hh hn => by
    have hA := only_full hh hn
    rw [only_block hA] at hh
    obtain ⟨h1, h2⟩ := hb b _ hbT hA hh rfl
    rw [only_block h1]
    exact h2
  refine ⟨h.inj, fun m hm => ?_, h.apart, fun m hm => ?_, fun i m hm => ?_⟩
  · have := h.low m hm
    omega
  · have h1 := h.nds m hm
    have h2 := (h.low m hm).2.2
    unfold NdAt at h1 ⊢
    split
    · rename_i n hn
      rw [hn] at h1
      simp only at h1
      exact hk _ _ _ h2 h1 (by simp)
    · rename_i c xs hn
      rw [hn] at h1
      simp only at h1
      obtain ⟨ao, cap, h3, h4, h5, h6⟩ := h1
      refine ⟨ao, cap, hk _ _ _ h2 h3 (by simp), h4, h5, ?_⟩
      rcases h6 with h6 | ⟨g, off, e, hg, hgm, hx⟩
      · exact .inl h6
      · refine .inr ⟨g, off, e, by omega, hgm, fun k x hkx => ?_⟩
        have h7 := hx k x hkx
        have hA : A g = true := by
          by_cases hA : A g = true
          · exact hA
          · rw [only_not hA] at h7
            cases h7
        rw [only_cell (a := ⟨g, off + k, none⟩) hA] at h7
        obtain ⟨o, hcs, ho⟩ := cell_is6 h7
        obtain ⟨h8, h9⟩ := hb g o hg hA hcs ho
        rw [only_cell (a := ⟨g, off + k, none⟩) h8, cell_block6 (h9.trans hcs.symm)]
        exact h7
  · obtain ⟨k, hk1⟩ := h.cls i m hm
    exact ⟨k, hk _ _ _ (h.low m (List.mem_of_getElem? hm)).1.2 hk1 (by simp)⟩

theorem only_all (w : World) : only (fun _ => true) w = w := by
  have h : (w.heap.mapIdx fun (g : Nat) o => if (fun _ => true) g = true then o else Obj.cells #[] 0) = w.heap := by
    apply Array.ext
    · simp
    · intro i h1 h2
      simp
  unfold only
  rw [h]

theorem Bd6.to_only {A : Nat → Bool} {w w' : World} {B T T' : Nat} {M : List Nm} {into : Nat → Option Nat} {face : Nat → Nat} {cnt : Nat → Int} (h : Bd6 w B T M into face cnt) (hT : T ≤ T') (hb : ∀ (b : Nat) (o : Obj), b < T → w.heap[b]? = some o → o.isCells = true → A b = true ∧ w'.heap[b]? = some o) : Bd6 (only A w') B T' M into face cnt := by
  rw [← only_all w] at h
  exact h.only_keep hT fun b o hbT _ hc ho => hb b o hbT hc ho

theorem Bd6.of_only {A : Nat → Bool} {w : World} {B T : Nat} {M : List Nm} {into : Nat → Option Nat} {face : Nat → Nat} {cnt : Nat → Int} (h : Bd6 (only A w) B T M into face cnt) : Bd6 w B T M into face cnt := by
  rw [← only_all w]
  exact h.only_keep (Nat.le_refl _) fun b o _ _ hc _ => ⟨rfl, hc⟩

theorem ndI_snoc {M : List Nm} {m : Nm} {i : Nat} (h : i < M.length) : ndI (M ++ [m]) i = ndI M i := by
  unfold ndI
  rw [List.getElem?_append_left h]

theorem ndI_new (M : List Nm) (m : Nm) : ndI (M ++ [m]) M.length = ndV m := by
  unfold ndI
  rw [snoc_new]
  rfl

/-- A node more, behind all that lay. -/
theorem Bd6.snoc {sig : List Sy} {W : World} {B T T' : Nat} {M : List Nm} (hk : NdOk sig (M.map (·.nd))) (h : Bd6 W B T M (fun _ => none) id (fun _ => 0)) {m : Nm} (hB : B ≤ T) (h1 : T ≤ m.blk) (h2 : T ≤ m.cls) (hne : m.cls ≠ m.blk) (h3 : m.blk < T') (h4 : m.cls < T')
    (hn : NdAt W T' (M ++ [m]) m) (hc : ClAt W (M ++ [m]) m.cls none M.length 0) : Bd6 W B T' (M ++ [m]) (fun _ => none) id (fun _ => 0) := by
  refine ⟨fun i j a b hi hj he => ?_, fun a ha => ?_, fun a ha b hb => ?_, fun a ha => ?_, fun i a hi => ?_⟩
  · rcases snoc_parts hi with hi' | ⟨e1, e3⟩ <;> rcases snoc_parts hj with hj' | ⟨e2, e4⟩
    · exact h.inj i j a b hi' hj' he
    · have := (h.low a (List.mem_of_getElem? hi')).1
      rw [e4] at he
      omega
    · have := (h.low b (List.mem_of_getElem? hj')).1
      rw [e3] at he
      omega
    · rw [e1, e2]
  · rcases List.mem_append.1 ha with ha | ha
    · have := h.low a ha
      omega
    · rw [List.mem_singleton] at ha
      subst ha
      omega
  · rcases List.mem_append.1 ha with ha | ha <;> rcases List.mem_append.1 hb with hb | hb
    · exact h.apart a ha b hb
    · rw [List.mem_singleton] at hb
      have := h.low a ha
      subst hb
      omega
    · rw [List.mem_singleton] at ha
      have := h.low b hb
      subst ha
      omega
    · rw [List.mem_singleton] at ha hb
      subst ha
      subst hb
      exact hne
  · rcases List.mem_append.1 ha with ha | ha
    · have h5 := h.nds a ha
      obtain ⟨i, hi⟩ := List.getElem?_of_mem ha
      unfold NdAt at h5 ⊢
      split
      · rename_i n hq
        rw [hq] at h5
        exact h5
      · rename_i c xs hq
        rw [hq] at h5
        simp only at h5
        obtain ⟨ao, cap, h6, h7, h8, h9⟩ := h5
        refine ⟨ao, cap, h6, h7, h8, ?_⟩
        rcases h9 with h9 | ⟨g, off, e, hg, hgm, hx⟩
        · exact .inl h9
        · refine .inr ⟨g, off, e, by omega, fun m' hm' => ?_, fun k x hkx => ?_⟩
          · rcases List.mem_append.1 hm' with hm' | hm'
            · exact hgm m' hm'
            · rw [List.mem_singleton] at hm'
              subst hm'
              omega
          · have hxi : x < i := hk.ahead i c xs (by rw [List.getElem?_map, hi, Option.map_some, hq]) x (List.mem_of_getElem? hkx)
            rw [ndI_snoc (by have := (List.getElem?_eq_some_iff.1 hi).1; omega)]
            exact hx k x hkx
    · rw [List.mem_singleton] at ha
      subst ha
      exact hn
  · rcases snoc_parts hi with hi | ⟨e1, rfl⟩
    · obtain ⟨k, hk1⟩ := h.cls i a hi
      refine ⟨k, ?_⟩
      show W.heap[a.cls]? = some (.cells #[inV (M ++ [m]) none, .int .i64 k, ndI (M ++ [m]) i, .int .i64 0] 76)
      rw [ndI_snoc (List.getElem?_eq_some_iff.1 hi).1]
      exact hk1
    · rw [e1]
      exact hc

/-- The map of the variables met: each has its node. -/
def Vm6 (M : List Nm) (L : List (Int × Value)) : Prop :=
  ∀ (n : Int) (v : Value), L.lookup n = some v ↔ ∃ (i : Nat) (m : Nm), M[i]? = some m ∧ m.nd = .var n ∧ v = .pointer (some ⟨m.blk, 0, none⟩)

theorem Vm6.app {M : List Nm} {L : List (Int × Value)} (h : Vm6 M L) {m : Nm} {c : Int} {xs : List Nat} (hm : m.nd = .app c xs) : Vm6 (M ++ [m]) L := fun n v => by
  rw [h n v]
  constructor
  · rintro ⟨i, m', h1, h2, h3⟩
    exact ⟨i, m', snoc_old h1, h2, h3⟩
  · rintro ⟨i, m', h1, h2, h3⟩
    rcases snoc_parts h1 with h1 | ⟨_, rfl⟩
    · exact ⟨i, m', h1, h2, h3⟩
    · rw [hm] at h2
      cases h2

theorem Vm6.var {M : List Nm} {L : List (Int × Value)} (h : Vm6 M L) {m : Nm} {n : Int} (hm : m.nd = .var n) (hn : L.lookup n = none) : Vm6 (M ++ [m]) ((n, .pointer (some ⟨m.blk, 0, none⟩)) :: L) := fun k v => by
  rw [List.lookup_cons]
  by_cases e : k = n
  · subst e
    simp only [beq_self_eq_true]
    constructor
    · intro hv
      cases hv
      exact ⟨M.length, m, snoc_new _ _, hm, rfl⟩
    · rintro ⟨i, m', h1, h2, rfl⟩
      rcases snoc_parts h1 with h1 | ⟨_, rfl⟩
      · have := (h k _).2 ⟨i, m', h1, h2, rfl⟩
        rw [hn] at this
        cases this
      · rfl
  · rw [show (k == n) = false by simpa using e]
    simp only
    rw [h k v]
    constructor
    · rintro ⟨i, m', h1, h2, h3⟩
      exact ⟨i, m', snoc_old h1, h2, h3⟩
    · rintro ⟨i, m', h1, h2, h3⟩
      rcases snoc_parts h1 with h1 | ⟨_, rfl⟩
      · exact ⟨i, m', h1, h2, h3⟩
      · rw [hm] at h2
        cases h2
        exact (e rfl).elim

theorem Vm6.none_of {M : List Nm} {L : List (Int × Value)} (h : Vm6 M L) {n : Int} (hn : L.lookup n = none) (i : Nat) : (M.map (·.nd))[i]? ≠ some (Nd.var n) := fun hi => by
  rw [List.getElem?_map, Option.map_eq_some_iff] at hi
  obtain ⟨m, h1, h2⟩ := hi
  have := (h n _).2 ⟨i, m, h1, h2, rfl⟩
  rw [hn] at this
  cases this

end Go.Proofs.YtelacmijkbgliaaDoor
