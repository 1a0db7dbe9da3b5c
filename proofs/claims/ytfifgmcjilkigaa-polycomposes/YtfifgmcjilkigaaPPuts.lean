/- What putAll answers. -/
import Derived.Test.YtfifgmcjilkigaaPMap
import Derived.Test.YtfifgmcjilkigaaPCheckC
import Derived.Deep.CutBlock
namespace Go.Proofs.Ytfifgmcjilkigaa
open Go.RowKit Go.Maps

/-- Monomials put one after the other: what is left, and the error. -/
def puts : Lk → List Mn → Lk × Int
  | L, [] => (L, 0)
  | L, m :: r => if putE L (keyX m.2) m.1 = 0 then puts (putL L (keyX m.2) m.1) r else (putL L (keyX m.2) m.1, putE L (keyX m.2) m.1)

theorem wfK_keyX {es : List Int} (h : Small es) : WfK (keyX es) := by
  refine ⟨keyX_len h.1, fun j x hx => ?_⟩
  by_cases hj : j < es.length
  · obtain ⟨y, hy⟩ : ∃ y, es[j]? = some y := ⟨es[j], List.getElem?_eq_getElem hj⟩
    rw [keyX_get hy] at hx
    cases hx
    have := h.2 j y hy
    omega
  · have hl := keyX_len h.1
    have := (List.getElem?_eq_some_iff.1 hx).1
    rw [keyX_high (by omega) (by omega)] at hx
    cases hx
    omega

theorem len_putL {L : Lk} {k c : List Nat} (h : putE L k c = 0) (hL : L.length ≤ 256) : (putL L k c).length ≤ 256 := by
  unfold putE at h
  unfold putL
  split at h
  · rename_i h0
    rw [if_pos h0]
    split at h
    · assumption
    · omega
  · rename_i h0
    rw [if_neg h0]
    exact hL

set_option maxRecDepth 100000 in
set_option maxHeartbeats 3200000 in
theorem putAll_any (b base : Nat) (L : Lk) (p : List Mn) (v : Value) (w : World) (h : MapOk w base b L) (hp : Ms w v p) (hs : ∀ (k : Nat) (m : Mn), p[k]? = some m → Small m.2) (hL : L.length ≤ 256) (hB : base ≤ w.heap.size) :
    Calls Try.prog 49 #[.map (some b), v] w fun e w' => e = .returned (.int .i64 (puts L p).2) ∧ MapOk w' base b (puts L p).1 ∧ w.grownBy w' (some b) := by
  obtain ⟨ao, cap, rfl, hao, hca, q0⟩ := Row.flat hp
  unfold maxLen at hca
  have HM : Hid (Ms w (.slice ao p.length cap) p) := hp
  have HS : Hid (∀ (k : Nat) (m : Mn), p[k]? = some m → Small m.2) := hs
  have H0 : Hid (MapOk w base b L) := h
  obtain ⟨es0, clock0, hmap⟩ := h.isMap
  have HMap : Hid (w.heap[b]? = some (.map es0 clock0)) := hmap
  clear hp hs h q0 hmap
  go_enter Try.func49, Try.ntmps49
  go_wp2
  go_loopw [10] (fun i wr => ∃ (k : Nat) (M : Lk), k ≤ p.length ∧ i = .int .i64 k ∧ puts L p = puts M (p.drop k) ∧ M.length ≤ 256 ∧ MapOk wr base b M ∧ w.grownBy wr (some b)) (fun i _ => p.length - (intOf i).toNat)
  case atStart => exact ⟨0, L, by omega, rfl, rfl, hL, H0.out, World.grownBy.refl _ _⟩
  case round =>
    obtain ⟨k, M, hk, rfl, hpu, hM6, hmo, hgr⟩ := hrel
    have HP : Hid (puts L p = puts M (p.drop k)) := hpu
    have HMo : Hid (MapOk wr base b M) := hmo
    have HG : Hid (w.grownBy wr (some b)) := hgr
    have HKp : Hid (Kp w wr) := Kp.of_map hgr HMap.out
    have hBr : base ≤ wr.heap.size := Nat.le_trans hB hgr.size
    clear hpu hmo hgr
    by_cases hlt : k < p.length
    · obtain ⟨g, off, c, es, a1, c1, a2, c2, rfl, hm1, hc0, hc1, hmm, hl1, hl2, hl3, hl4⟩ := (HM.out.kp HKp.out).at hlt
      have HX : Hid (p[k]? = some (c, es)) := hm1
      have HSm : Hid (Small es) := HS.out k _ hm1
      have hbx := below_alloc (w := wr) (.cells #[.slice a1 c.length c1, .slice a2 es.length c2] 46)
      have HBX : Hid (Below wr.heap.size wr (wr.alloc (.cells #[.slice a1 c.length c1, .slice a2 es.length c2] 46))) := hbx
      have HMm : Hid (Mo (wr.alloc (.cells #[.slice a1 c.length c1, .slice a2 es.length c2] 46)) (.slice a1 c.length c1) (.slice a2 es.length c2) (c, es)) := hmm.kp (Kp.of_below hbx)
      clear hm1 hmm hbx
      go_upto_region 4 with fail
      obtain ⟨wb, hwb⟩ : ∃ wb, wb = wr.alloc (.cells #[.slice a1 c.length c1, .slice a2 es.length c2] 46) := ⟨_, rfl⟩
      have hd0 : wb.cell? ⟨wr.heap.size, 0, none⟩ = some (.slice a1 c.length c1) := by rw [hwb]; simp
      have hd1 : wb.cell? ⟨wr.heap.size, 1, none⟩ = some (.slice a2 es.length c2) := by rw [hwb]; simp
      rw [← hwb] at HBX HMm ⊢
      have hbd : Below wr.heap.size wr wb.drew := HBX.out.drew
      have HMb : Hid (MapOk wb.drew base b M) := HMo.out.later hbd
      have HMd : Hid (Mo wb.drew (.slice a1 c.length c1) (.slice a2 es.length c2) (c, es)) := HMm.out
      have HGb : Hid (w.grownBy wb.drew (some b)) := grown_trans HG.out (grown_of_below hbd _)
      have hBb : base ≤ wb.drew.heap.size := Nat.le_trans hBr hbd.size
      clear hwb hc0 hc1 hbd
      obtain ⟨E, hE⟩ : ∃ E, E = putE M (keyX es) c := ⟨_, rfl⟩
      have HE : Hid (E = putE M (keyX es) c) := hE
      clear hE
      go_cut [7] from 14 to 20 (fun x wx => x = .int .i64 E ∧ MapOk wx base b (putL M (keyX es) c) ∧ w.grownBy wx (some b))
      case first =>
        go_region_with (first
          | (go_at_call 62; refine (packed_any _ es _ HMd.out.2 HSm.out).mono ?_; rintro e w1 ⟨rfl, hb1⟩; have hx0 : w1.cell? ⟨wr.heap.size, 0, none⟩ = some (.slice a1 c.length c1) := (Kp.of_below hb1).cell _ _ hd0)
          | (go_at_call 64; refine (put_any b base M (keyX es) c _ _ (HMb.out.later hb1) (wfK_keyX HSm.out) (HMd.out.1.kp (Kp.of_below hb1)) hM6 (Nat.le_trans hBb hb1.size)).mono ?_; rintro e w2 ⟨rfl, hm2, hg2⟩))
        all_goals (go_wp2_with fail; go_meet; exact ⟨by rw [HE.out], hm2, grown_trans HGb.out (grown_trans (grown_of_below hb1 _) hg2)⟩)
      case rest =>
        obtain ⟨rfl, hm2, hg2⟩ := hcut
        have HM2 : Hid (MapOk wc base b (putL M (keyX es) c)) := hm2
        have HG2 : Hid (w.grownBy wc (some b)) := hg2
        clear hm2 hg2 hd0 hd1
        by_cases hE0 : E = 0
        · subst hE0
          go_wp2
          go_roundw
          case rel =>
            refine ⟨k + 1, putL M (keyX es) c, by omega, by go_num, ?_, len_putL HE.out.symm hM6, HM2.out, HG2.out⟩
            rw [HP.out, drop_get HX.out, puts, if_pos HE.out.symm]
          case measure => simp [intOf]; omega
        · have hb0 : (E != 0) = true := by rw [bne_iff_ne]; exact hE0
          have HF : Hid (puts L p = (putL M (keyX es) c, E)) := by
            show puts L p = _
            rw [HP.out, drop_get HX.out, puts, if_neg (by rw [← HE.out]; exact hE0), ← HE.out]
          go_wp2
          go_ret
          exact ⟨ret1i (by rw [HF.out]), by rw [HF.out]; exact HM2.out, HG2.out⟩
    · have hke : k = p.length := by omega
      subst hke
      have HF : Hid (puts L p = (M, 0)) := by
        show puts L p = _
        rw [HP.out, List.drop_of_length_le (Nat.le_refl _)]; rfl
      go_wp2
      go_ret
      exact ⟨ret1i (by rw [HF.out]), by rw [HF.out]; exact HMo.out, HG.out⟩

end Go.Proofs.Ytfifgmcjilkigaa
