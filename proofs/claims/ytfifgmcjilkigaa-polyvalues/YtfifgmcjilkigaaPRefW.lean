/- What the document's Value answers. -/
import Derived.Test.YtfifgmcjilkigaaPRefV
import Derived.Test.YtfifgmcjilkigaaRefAdd
import Derived.Test.YtfifgmcjilkigaaRefMul
namespace Go.Proofs.Ytfifgmcjilkigaa
open Go.RowKit Go.Maps

theorem sl_empty (w : World) (a : Option Addr) : Sl w (.slice a 0 0) (limbs 0) := ⟨by intro y hy; simp [limbs_zero] at hy, a, 0, rfl, by simp [limbs_zero], by simp [maxLen], by simp [limbs_zero]⟩

set_option maxRecDepth 100000 in
set_option maxHeartbeats 6400000 in
theorem refValue_any (v av : Value) (p : List Mn) (ats : List (List Nat)) (w : World) (h : Ms w v p) (h' : Rs w av ats) (hl : ∀ m ∈ p, Lim m.1) (hla : ∀ f ∈ ats, Lim f) (hlong : ∀ m ∈ p, m.2.length ≤ 4611686018427387904) :
    Calls Try.prog 26 #[v, av] w fun e w' => ∃ v', e = .returned (.tuple #[v', .int .i64 (valE p ats)]) ∧ Sl w' v' (valL p ats) ∧ Below w.heap.size w w' := by
  obtain ⟨ao, cap, rfl, hao, hca, q0⟩ := Row.flat h
  obtain ⟨bo, cap', rfl, hbo, hcb, q0'⟩ := Row.flat h'
  unfold maxLen at hca hcb
  have HP : Hid (Ms w (.slice ao p.length cap) p) := h
  have HQ : Hid (Rs w (.slice bo ats.length cap') ats) := h'
  have HL : Hid (∀ m ∈ p, Lim m.1) := hl
  have HLa : Hid (∀ f ∈ ats, Lim f) := hla
  have HLo : Hid (∀ m ∈ p, m.2.length ≤ 4611686018427387904) := hlong
  clear h h' q0 q0' hl hla hlong
  go_enter Try.func26, Try.ntmps26
  go_wp2_with fail
  refine (refCheck_any _ p 4611686018427387904 _ HP.out (by omega) (by omega)).mono ?_
  rw [checkR_eq, check_long HLo.out]
  rintro e w1 ⟨rfl, hb1⟩
  have HB1 : Hid (Below w.heap.size w w1) := hb1
  have HP1 : Hid (Ms w1 (.slice ao p.length cap) p) := HP.out.kp (Kp.of_below hb1)
  obtain ⟨E, hE⟩ : ∃ E, E = checkE p 9223372036854775807 := ⟨_, rfl⟩
  have HE : Hid (E = checkE p 9223372036854775807) := hE
  rw [← hE]
  clear hE hb1
  by_cases hE0 : E = 0
  rotate_left
  · have hb0 : (E != 0) = true := by rw [bne_iff_ne]; exact hE0
    have hc : valE p ats = E := by
      unfold valE
      have : ¬ checkAllE [p] = 0 := fun hh => hE0 (by rw [HE.out]; exact checkAll1_iff.1 hh)
      rw [if_neg this]
      simp only [checkAllE]
      rw [← HE.out, if_neg hE0]
    have HC : Hid (valE p ats = E ∧ valL p ats = []) := ⟨hc, by unfold valL; rw [hc, if_neg hE0]⟩
    clear hc
    go_wp2
    go_ret2
    exact ⟨_, ret2i HC.out.1.symm, by rw [HC.out.2]; exact Sl.nil _, HB1.out⟩
  subst hE0
  have HPol : Hid (Pol p) := Pol.of HL.out (by omega) HE.out.symm
  go_wp2_with fail
  refine (refCheck_any _ p (ats.length : Int) _ HP1.out (by omega) (by omega)).mono ?_
  rw [checkR_eq]
  rintro e w2 ⟨rfl, hb2⟩
  have HB2 : Hid (Below w.heap.size w w2) := below_step HB1.out hb2
  obtain ⟨F, hF⟩ : ∃ F, F = checkE p (ats.length : Int) := ⟨_, rfl⟩
  have HFe : Hid (F = 0 ↔ varsN p ≤ ats.length) := by
    show _ ↔ _
    rw [hF]
    exact check_len HE.out.symm
  rw [← hF]
  clear hF hb2 HB1 HP1
  by_cases hF0 : F = 0
  rotate_left
  · have hb0 : (F != 0) = true := by rw [bne_iff_ne]; exact hF0
    have hc : valE p ats = 21 := by
      unfold valE
      rw [if_pos (checkAll1_iff.2 HE.out.symm), if_neg (fun hh => hF0 (HFe.out.2 hh))]
    have HC : Hid (valE p ats = 21 ∧ valL p ats = []) := ⟨hc, by unfold valL; rw [hc]; rfl⟩
    clear hc
    go_wp2
    go_ret2
    exact ⟨_, ret2i HC.out.1.symm, by rw [HC.out.2]; exact Sl.nil _, HB2.out⟩
  have HV : Hid (varsN p ≤ ats.length) := HFe.out.1 hF0
  subst hF0
  clear HFe
  go_wp2
  go_loopw [7] (fun i wr => ∃ k : Nat, k ≤ ats.length ∧ i = .int .i64 k ∧ (∀ (j : Nat) (x : List Nat), j < k → ats[j]? = some x → rightB x = true) ∧ wr = w2) (fun i _ => ats.length - (intOf i).toNat)
  case atStart => exact ⟨0, by omega, rfl, fun j x hj => absurd hj (by omega), rfl⟩
  case round =>
    obtain ⟨k, hk, rfl, hp, hw⟩ := hrel
    have hw8 := hw.symm
    subst hw8
    have HPk : Hid (∀ (j : Nat) (x : List Nat), j < k → ats[j]? = some x → rightB x = true) := hp
    clear hp hw
    by_cases hlt : k < ats.length
    · obtain ⟨g, off, f, a1, c1, rfl, hm1, hc0, hmo, hl1, hl2⟩ := (HQ.out.kp (Kp.of_below HB2.out)).at hlt
      have HX : Hid (ats[k]? = some f) := hm1
      clear hm1
      go_wp2_with fail
      refine (refRight_any _ _ _ hmo).mono ?_
      rintro e w9 ⟨rfl, hw9⟩
      have hw8 := hw9.symm
      subst hw8
      clear hw9 hmo hc0
      cases hr : rightB f
      · have hc : valE p ats = 10 := by
          unfold valE
          have : ¬ ats.all rightB = true := fun hh => by
            have := List.all_eq_true.1 hh f (List.mem_of_getElem? HX.out)
            rw [hr] at this
            cases this
          rw [if_pos (checkAll1_iff.2 HE.out.symm), if_pos HV.out, if_neg this]
        have HC : Hid (valE p ats = 10 ∧ valL p ats = []) := ⟨hc, by unfold valL; rw [hc]; rfl⟩
        clear hc hr
        go_wp2
        go_ret2
        exact ⟨_, ret2i HC.out.1.symm, by rw [HC.out.2]; exact Sl.nil _, HB2.out⟩
      · have HR : Hid (rightB f = true) := hr
        clear hr
        go_wp2
        go_roundw
        case rel =>
          refine ⟨k + 1, by omega, by go_num, fun j x hj hx => ?_, trivial⟩
          by_cases hjk : j = k
          · subst hjk; rw [HX.out] at hx; cases hx; exact HR.out
          · exact HPk.out j x (by omega) hx
        case measure => simp [intOf]; omega
    · have HAll : Hid (ats.all rightB = true) := by
        show _ = _
        rw [List.all_eq_true]
        intro x hx
        obtain ⟨j, hj⟩ := List.mem_iff_getElem?.1 hx
        exact HPk.out j x (by have := (List.getElem?_eq_some_iff.1 hj).1; omega) hj
      have HG : Hid (∀ f ∈ ats, Lim f ∧ rightB f = true) := fun f hf => ⟨HLa.out f hf, List.all_eq_true.1 HAll.out f hf⟩
      have HBig : Hid (bigN ≤ worthN ats p → valE p ats = 2 ∧ valL p ats = []) := by
        intro hbig
        have h1 : valE p ats = 2 := by
          unfold valE
          rw [if_pos (checkAll1_iff.2 HE.out.symm), if_pos HV.out, if_pos HAll.out, valGo_spec HG.out (fun m hm => HPol.out.good hm) rt_nil, Nat.zero_add, ans_no hbig]
        exact ⟨h1, by unfold valL; rw [h1]; rfl⟩
      have HFin : Hid (worthN ats p < bigN → valE p ats = 0 ∧ valL p ats = limbs (worthN ats p)) := by
        intro hs
        have h1 : valE p ats = 0 := (val_iff HL.out HLa.out).2 ⟨HE.out.symm, HV.out, HAll.out, hs⟩
        exact ⟨h1, (valL_spec HL.out HLa.out h1).1⟩
      clear HPk
      go_wp2
      go_loopw [8, 9] (fun x i wr => ∃ (k T : Nat), k ≤ p.length ∧ i = .int .i64 k ∧ T = worthN ats (p.take k) ∧ T < bigN ∧ Sl wr x (limbs T) ∧ Below w.heap.size w wr) (fun _ i _ => p.length - (intOf i).toNat)
      case atStart => exact ⟨0, 0, by omega, rfl, rfl, rt_nil.2, sl_empty _ _, below_step HB2.out (below_alloc _)⟩
      case round =>
        obtain ⟨k, T, hk, rfl, hT, hTb, hst, hbl⟩ := hrel
        obtain ⟨wA, rfl⟩ : ∃ X, X = wr := ⟨wr, rfl⟩
        have HT : Hid (T = worthN ats (p.take k)) := hT
        have HTb : Hid (T < bigN) := hTb
        have HSt : Hid (Sl wA u8 (limbs T)) := hst
        have HBl : Hid (Below w.heap.size w wA) := hbl
        clear hT hTb hst
        by_cases hlt : k < p.length
        · obtain ⟨g, off, c, es, a1, c1, a2, c2, rfl, hm1, hc0, hc1, hmm, hl1, hl2, hl3, hl4⟩ := (HP.out.kp (Kp.of_below hbl)).at hlt
          have HX : Hid (p[k]? = some (c, es)) := hm1
          have HGm : Hid (GoodM (c, es)) := HPol.out.good (List.mem_of_getElem? hm1)
          have hle : es.length ≤ ats.length := varsN_iff.1 HV.out _ (List.mem_of_getElem? hm1)
          have HMo : Hid (Mo wA (.slice a1 c.length c1) (.slice a2 es.length c2) (c, es)) := hmm
          have HQr : Hid (Rs wA (.slice bo ats.length cap') ats) := HQ.out.kp (Kp.of_below hbl)
          clear hm1 hmm hbl
          go_wp2
          go_loopw [10, 11] (fun b i ws => ∃ l : Nat, l ≤ es.length ∧ i = .int .i64 l ∧ b = .bool (noughtB (es.take l) ats) ∧ ws = wA) (fun _ i _ => es.length - (intOf i).toNat)
          case atStart => exact ⟨0, by omega, rfl, by simp [noughtB], rfl⟩
          case round =>
            obtain ⟨l, hl, rfl, rfl, hw⟩ := hrel
            have hw8 := hw.symm
            subst hw8
            clear hw
            by_cases hll : l < es.length
            · obtain ⟨g2, o2, x, rfl, hx1, hx2, hx3, hx4⟩ := HMo.out.2.at hll
              obtain ⟨g3, o3, f, b1, d1, rfl, hy1, hy2, hy3, hy4, hy5⟩ := HQr.out.at (k := l) (by omega)
              have hla : l < ats.length := by omega
              have HN : Hid (noughtB (es.take (l + 1)) ats = (noughtB (es.take l) ats || (decide (0 < x) && f.length == 0))) := nought_take hx1 hy1
              clear hx1 hy1 hy3
              cases hB : noughtB (es.take l) ats
              · rw [hB] at HN
                clear hB
                by_cases hx : 0 < x
                · by_cases hf0 : f.length = 0
                  · have hfb : ((f.length : Int) == 0) = true := by rw [beq_iff_eq]; omega
                    have HN2 : Hid (noughtB (es.take (l + 1)) ats = true) := by show _ = _; rw [HN.out]; simp [hx, hf0]
                    clear hf0
                    go_wp2
                    go_roundw
                    case rel => exact ⟨l + 1, by omega, by go_num, by rw [HN2.out], trivial⟩
                    case measure => simp [intOf]; omega
                  · have hfb : ((f.length : Int) == 0) = false := by rw [beq_eq_false_iff_ne]; omega
                    have HN2 : Hid (noughtB (es.take (l + 1)) ats = false) := by show _ = _; rw [HN.out]; simp [hf0]
                    clear hf0
                    go_wp2
                    go_roundw
                    case rel => exact ⟨l + 1, by omega, by go_num, by rw [HN2.out], trivial⟩
                    case measure => simp [intOf]; omega
                · have hxd : decide (0 < x) = false := decide_eq_false hx
                  have HN2 : Hid (noughtB (es.take (l + 1)) ats = false) := by show _ = _; rw [HN.out]; simp [hxd]
                  go_wp2
                  go_roundw
                  case rel => exact ⟨l + 1, by omega, by go_num, by rw [HN2.out], trivial⟩
                  case measure => simp [intOf]; omega
              · rw [hB] at HN
                clear hB
                have HN2 : Hid (noughtB (es.take (l + 1)) ats = true) := by show _ = _; rw [HN.out]; simp
                go_wp2
                go_roundw
                case rel => exact ⟨l + 1, by omega, by go_num, by rw [HN2.out], trivial⟩
                case measure => simp [intOf]; omega
            · have hle2 : es.take l = es := List.take_of_length_le (by omega)
              rw [hle2]
              clear hle2
              cases hN : noughtB es ats
              rotate_left
              · have HW : Hid (worthN ats (p.take (k + 1)) = T) := by
                  show _ = _
                  rw [worthN_take HX.out, ← HT.out, prodW_nought hN]
                  rfl
                clear hN
                go_wp2
                go_roundw
                case rel => exact ⟨k + 1, T, by omega, by go_num, HW.out.symm, HTb.out, HSt.out, HBl.out⟩
                case measure => simp [intOf]; omega
              have HN : Hid (noughtB es ats = false) := hN
              have HW : Hid (worthN ats (p.take (k + 1)) = T + val c * prodW es ats) := by
                show _ = _
                rw [worthN_take HX.out, ← HT.out]
              have HWp : Hid (T + val c * prodW es ats ≤ worthN ats p) := by
                show _ ≤ _
                rw [← HW.out]
                exact worthN_part p (k + 1)
              have HRc : Hid (Rt c (val c)) := Rt.of HGm.out.1 HGm.out.2.1
              clear hN
              go_wp2
              go_loopw [12, 13] (fun y i ws => ∃ (l X : Nat), l ≤ es.length ∧ i = .int .i64 l ∧ X = val c * prodW (es.take l) ats ∧ X < bigN ∧ Sl ws y (limbs X) ∧ Below wA.heap.size wA ws) (fun _ i _ => es.length - (intOf i).toNat)
              case atStart => exact ⟨0, val c, by omega, rfl, by simp [prodW], HRc.out.2, by rw [← HRc.out.1]; exact HMo.out.1, Below.refl _ _⟩
              case round =>
                obtain ⟨l2, X, hl2, rfl, hX, hXb, hsy, hby⟩ := hrel
                have HXe : Hid (X = val c * prodW (es.take l2) ats) := hX
                have HXb : Hid (X < bigN) := hXb
                obtain ⟨wB, rfl⟩ : ∃ X, X = wr := ⟨wr, rfl⟩
                have HSy : Hid (Sl wB u12 (limbs X)) := hsy
                have HBy : Hid (Below wA.heap.size wA wB) := hby
                have HBw : Hid (Below w.heap.size w wB) := below_step HBl.out hby
                clear hX hXb hsy
                by_cases hll2 : l2 < es.length
                · obtain ⟨g2, o2, x, rfl, hx1, hx2, hx3, hx4⟩ := (HMo.out.2.kp (Kp.of_below hby)).at hll2
                  obtain ⟨g3, o3, f, b1, d1, rfl, hy1, hy2, hy3, hy4, hy5⟩ := (HQr.out.kp (Kp.of_below hby)).at (k := l2) (by omega)
                  have hla2 : l2 < ats.length := by omega
                  have hcB := (Kp.of_below hby).cell _ _ hc1
                  have HEx : Hid (es[l2]? = some x) := hx1
                  have HAt : Hid (ats[l2]? = some f) := hy1
                  have HGf : Hid (Lim f ∧ rightB f = true) := HG.out f (List.mem_of_getElem? hy1)
                  have HSf : Hid (Sl wB (.slice b1 f.length d1) f) := hy3
                  have hf64 : f.length ≤ 64 := length_le_of_right HGf.out.2
                  have hxx := HGm.out.2.2.2 x (List.mem_of_getElem? hx1)
                  have hx0 : 0 ≤ x := hxx.1
                  have HXx : Hid (0 ≤ x ∧ x ≤ 64) := hxx
                  clear hx1 hy1 hy3 hby hxx
                  go_wp2
                  go_loopw [12, 14] (fun y i ws => ∃ (n X2 : Nat), n ≤ x.toNat ∧ i = .int .i64 n ∧ X2 = X * val f ^ n ∧ X2 < bigN ∧ Sl ws y (limbs X2) ∧ Below wB.heap.size wB ws) (fun _ i _ => x.toNat - (intOf i).toNat)
                  case atStart => exact ⟨0, X, by omega, rfl, by simp, HXb.out, HSy.out, Below.refl _ _⟩
                  case round =>
                    obtain ⟨n, X2, hn, rfl, hX2, hXb2, hsz, hbz⟩ := hrel
                    obtain ⟨wC, rfl⟩ : ∃ X, X = wr := ⟨wr, rfl⟩
                    have HX2 : Hid (X2 = X * val f ^ n) := hX2
                    have HXb2 : Hid (X2 < bigN) := hXb2
                    have HSz : Hid (Sl wC u12 (limbs X2)) := hsz
                    have HBz : Hid (Below w.heap.size w wC) := below_step HBw.out hbz
                    have HBc : Hid (Below wB.heap.size wB wC) := hbz
                    have hcC := (Kp.of_below hbz).cell _ _ hcB
                    have hxC := (Kp.of_below hbz).cell _ _ hx2
                    have hyC := (Kp.of_below hbz).cell _ _ hy2
                    have HSfC : Hid (Sl wC (.slice b1 f.length d1) f) := HSf.out.kp (Kp.of_below hbz)
                    clear hX2 hXb2 hsz hbz
                    by_cases hnx : (n : Int) < x
                    · go_wp2_with fail
                      refine (refMul_any _ _ (limbs X2) f _ HSz.out HSfC.out).mono ?_
                      rintro e wD ⟨vD, rfl, oD, hbD⟩
                      have HBD : Hid (Below wB.heap.size wB wD) := below_step HBc.out hbD
                      have HBDw : Hid (Below w.heap.size w wD) := below_step HBz.out hbD
                      have hR1 : Rt (limbs X2) X2 := ⟨rfl, HXb2.out⟩
                      have hR2 : Rt f (val f) := Rt.of HGf.out.1 HGf.out.2
                      by_cases hbig : X2 * val f < bigN
                      · obtain ⟨me, mr⟩ := mul_ok hR1 hR2 hbig
                        rw [me]
                        have hsd := oD.sl
                        rw [mr.1] at hsd
                        have hlen : (limbs (X2 * val f)).length ≤ 64 := (limbs_short _).2 hbig
                        obtain ⟨ad, cd, rfl, hd1, hd2, _⟩ := hsd.flat
                        unfold maxLen at hd2
                        have HSD : Hid (Sl wD (.slice ad (limbs (X2 * val f)).length cd) (limbs (X2 * val f))) := hsd
                        have HNb : Hid (X2 * val f < bigN) := hbig
                        have HNe : Hid (X2 * val f = X * val f ^ (n + 1)) := by show _ = _; rw [HX2.out, Nat.pow_succ, Nat.mul_assoc]
                        obtain ⟨LL, hLL⟩ : ∃ L, L = (limbs (X2 * val f)).length := ⟨_, rfl⟩
                        rw [← hLL] at hlen hd1 HSD ⊢
                        clear me mr oD hbD hsd hR1 hR2 hbig hLL hcC hxC hyC
                        go_wp2
                        go_roundw
                        case rel => exact ⟨n + 1, X2 * val f, by omega, by go_num, HNe.out, HNb.out, HSD.out, HBD.out⟩
                        case measure => simp [intOf]; omega
                      · obtain ⟨me, _⟩ := mul_no hR1 hR2 (by omega)
                        rw [me]
                        have hcc := HBig.out (by
                          have h1 : prodW (es.take l2) ats * val f ^ (n + 1) ≤ prodW es ats := prodW_le HG.out HGm.out.2.2.2 HN.out HEx.out HAt.out (by omega)
                          have h2 : X2 * val f = val c * (prodW (es.take l2) ats * val f ^ (n + 1)) := by
                            rw [HX2.out, HXe.out, Nat.pow_succ]
                            ac_rfl
                          have h3 : val c * (prodW (es.take l2) ats * val f ^ (n + 1)) ≤ val c * prodW es ats := Nat.mul_le_mul_left (val c) h1
                          have h4 : T + val c * prodW es ats ≤ worthN ats p := HWp.out
                          omega)
                        have HC : Hid (valE p ats = 2 ∧ valL p ats = []) := hcc
                        obtain ⟨ad, nd, cd, rfl⟩ := oD.slice
                        clear hcc me oD hbD hR1 hR2 hbig hcC hxC hyC
                        go_wp2
                        go_ret2
                        exact ⟨_, ret2i HC.out.1.symm, by rw [HC.out.2]; exact Sl.nil _, HBDw.out⟩
                    · have hnd : decide ((n : Int) < x) = false := decide_eq_false hnx
                      have HNx : Hid (X2 = val c * prodW (es.take (l2 + 1)) ats) := by
                        show _ = _
                        have e : n = x.toNat := by omega
                        rw [prodW_take (ats := ats) HEx.out HAt.out, HX2.out, HXe.out, e, Nat.mul_assoc]
                      go_wp2
                      go_roundw
                      case rel => exact ⟨l2 + 1, X2, by omega, by go_num, HNx.out, HXb2.out, HSz.out, below_step HBy.out HBc.out⟩
                      case measure => simp [intOf]; omega
                · have HXf : Hid (X = val c * prodW es ats) := by
                    have := HXe.out
                    rw [List.take_of_length_le (by omega)] at this
                    exact this
                  have hcB := (Kp.of_below hby).cell _ _ hc1
                  have HSt2 : Hid (Sl wB u8 (limbs T)) := HSt.out.kp (Kp.of_below hby)
                  clear hby
                  go_wp2_with fail
                  refine (refAdd_any _ _ (limbs T) (limbs X) _ HSt2.out HSy.out).mono ?_
                  rintro e wD ⟨vD, rfl, oD, hbD⟩
                  have HBDw : Hid (Below w.heap.size w wD) := below_step HBw.out hbD
                  have hR1 : Rt (limbs T) T := ⟨rfl, HTb.out⟩
                  have hR2 : Rt (limbs X) X := ⟨rfl, HXb.out⟩
                  by_cases hbig : T + X < bigN
                  · obtain ⟨me, mr⟩ := add_ok hR1 hR2 hbig
                    rw [me]
                    have hsd := oD.sl
                    rw [mr.1] at hsd
                    have hlen : (limbs (T + X)).length ≤ 64 := (limbs_short _).2 hbig
                    obtain ⟨ad, cd, rfl, hd1, hd2, _⟩ := hsd.flat
                    unfold maxLen at hd2
                    have HSD : Hid (Sl wD (.slice ad (limbs (T + X)).length cd) (limbs (T + X))) := hsd
                    have HNb : Hid (T + X < bigN) := hbig
                    have HNe : Hid (T + X = worthN ats (p.take (k + 1))) := by show _ = _; rw [HW.out, HXf.out]
                    obtain ⟨LL, hLL⟩ : ∃ L, L = (limbs (T + X)).length := ⟨_, rfl⟩
                    rw [← hLL] at hlen hd1 HSD ⊢
                    clear me mr oD hbD hsd hR1 hR2 hbig hLL hcB
                    go_wp2
                    go_roundw
                    case rel => exact ⟨k + 1, T + X, by omega, by go_num, HNe.out, HNb.out, HSD.out, HBDw.out⟩
                    case measure => simp [intOf]; omega
                  · obtain ⟨me, _⟩ := add_no hR1 hR2 (by omega)
                    rw [me]
                    have hcc := HBig.out (by have h1 := HWp.out; have h2 := HXf.out; omega)
                    have HC : Hid (valE p ats = 2 ∧ valL p ats = []) := hcc
                    obtain ⟨ad, nd, cd, rfl⟩ := oD.slice
                    clear hcc me oD hbD hR1 hR2 hbig hcB
                    go_wp2
                    go_ret2
                    exact ⟨_, ret2i HC.out.1.symm, by rw [HC.out.2]; exact Sl.nil _, HBDw.out⟩
        · have HTe : Hid (T = worthN ats p) := by
            have := HT.out
            rw [List.take_of_length_le (by omega)] at this
            exact this
          have hfin := HFin.out (by have h1 := HTe.out; have h2 := HTb.out; omega)
          have HC : Hid (valE p ats = 0) := hfin.1
          have HSf : Hid (Sl wA u8 (valL p ats)) := by
            show Sl _ _ _
            rw [hfin.2, ← HTe.out]
            exact HSt.out
          clear hfin hbl
          go_wp2
          go_ret2
          exact ⟨_, ret2i HC.out.symm, HSf.out, HBl.out⟩

end Go.Proofs.Ytfifgmcjilkigaa
