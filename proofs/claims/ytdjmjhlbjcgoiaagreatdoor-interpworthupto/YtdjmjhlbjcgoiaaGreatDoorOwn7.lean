/- Texts of the proof, one behind the other. -/
import Derived.Test.YtdjmjhlbjcgoiaaGreatDoorOwn5
import Derived.Test.YtdjmjhlbjcgoiaaGreatDoorOwn6
import Derived.Test.YtdjmjhlbjcgoiaaGreatDoorOwn2
import Derived.Deep.CutBlock
import Derived.Great.BuildSlice
import Derived.Deep.MidRow
import Derived.Deep.RegionHeldLaw
import Derived.Maps.AppendAt
/- A row of bytes as exponents again. -/
namespace Go.Proofs.YtdjmjhlbjcgoiaaGreatDoor
open Go.RowKit

/-- How many there are up to the last that is not 0. -/
def topK (ks : List Nat) : Nat := (ks.reverse.dropWhile (· == 0)).length

def unX (ks : List Nat) : List Int := (ks.take (topK ks)).map Int.ofNat

theorem topK_eq {ks : List Nat} {n : Nat} (hn : n ≤ ks.length) (h0 : ∀ j, n ≤ j → j < ks.length → ks[j]? = some 0) (h1 : n = 0 ∨ ∃ x, ks[n - 1]? = some x ∧ ¬ x = 0) : topK ks = n := by
  have hsplit : ks = ks.take n ++ List.replicate (ks.length - n) 0 := by
    apply List.ext_getElem?
    intro j
    by_cases hj : j < n
    · rw [List.getElem?_append_left (by simp; omega), List.getElem?_take_of_lt hj]
    · rw [List.getElem?_append_right (by simp; omega), List.getElem?_replicate]
      simp only [List.length_take]
      by_cases hj2 : j < ks.length
      · rw [h0 j (by omega) hj2, if_pos (by omega)]
      · rw [if_neg (by omega), List.getElem?_eq_none (by omega)]
  have hrev : ks.reverse = List.replicate (ks.length - n) 0 ++ (ks.take n).reverse := by
    conv => lhs; rw [hsplit]
    rw [List.reverse_append, List.reverse_replicate]
  unfold topK
  rw [hrev, List.dropWhile_append_of_pos (by intro a ha; have := (List.mem_replicate.1 ha).2; simp [this])]
  rcases h1 with rfl | ⟨x, hx, hne⟩
  · simp
  · have hpos : 0 < n ∨ n = 0 := by omega
    rcases hpos with hpos | rfl
    · have ht : ks.take n = ks.take (n - 1) ++ [x] := by
        have := take_getY hx
        rwa [show n - 1 + 1 = n by omega] at this
      rw [ht, List.reverse_append]
      have hb : (x == 0) = false := by simpa using hne
      simp only [List.reverse_cons, List.reverse_nil, List.nil_append, List.singleton_append, List.dropWhile_cons, hb, Bool.false_eq_true, if_false, List.length_cons, List.length_reverse, List.length_take]
      omega
    · simp

theorem unX_keyX {es : List Int} (h : es.length ≤ 512) (h0 : ∀ (k : Nat) (x : Int), es[k]? = some x → 0 ≤ x) (h1 : es.length = 0 ∨ ∃ x, es[es.length - 1]? = some x ∧ ¬ x = 0) : unX (keyX es) = es := by
  have ht : topK (keyX es) = es.length := by
    refine topK_eq (by rw [keyX_len h]; exact h) (fun j hj hj2 => keyX_high hj (by rw [keyX_len h] at hj2; exact hj2)) ?_
    rcases h1 with h1 | ⟨x, hx, hne⟩
    · exact .inl h1
    · exact .inr ⟨x.toNat, keyX_get hx, by have := h0 _ _ hx; omega⟩
  unfold unX
  rw [ht]
  unfold keyX
  rw [List.take_left' (by simp), List.map_map]
  apply List.ext_getElem?
  intro k
  rw [List.getElem?_map]
  cases hk : es[k]? with
  | none => rfl
  | some x =>
    have := h0 k x hk
    simp [Function.comp]
    omega

set_option maxRecDepth 100000 in
set_option maxHeartbeats 1600000 in
theorem unpacked_any (ks : List Nat) (w : World) (hk : ks.length = 512) (hb : ∀ (j x : Nat), ks[j]? = some x → x < 256) :
    Calls Tryz.prog 121 #[.agg (arr ks)] w fun e w' => ∃ v', e = .returned v' ∧ OwI w' w.heap.size v' (unX ks) ∧ Below w.heap.size w w' := by
  obtain ⟨i0, hi, hz0, hz1, hz2⟩ := info_parts info_int
  have HK : Hid (ks.length = 512) := hk
  have HB : Hid (∀ (j x : Nat), ks[j]? = some x → x < 256) := hb
  clear hk hb
  go_enter Tryz.func121, Tryz.ntmps121
  go_wp2
  obtain ⟨wb, hwb⟩ : ∃ wb, wb = w.alloc (.cells (arr ks) 160) := ⟨_, rfl⟩
  have HA : Hid (Ar wb w.heap.size ks) := by rw [hwb]; exact Ar.new w ks
  have HBl : Hid (Below w.heap.size w wb) := by rw [hwb]; exact below_alloc _
  have hszb : w.heap.size < wb.heap.size := HA.out.lt
  rw [← hwb]
  clear hwb
  go_loopw [3] (fun i wr => ∃ n : Nat, n ≤ 512 ∧ i = .int .i64 n ∧ (∀ j : Nat, n ≤ j → j < 512 → ks[j]? = some 0) ∧ wr = wb) (fun i _ => (intOf i).toNat)
  case atStart => exact ⟨512, by omega, rfl, fun j h1 h2 => absurd h1 (by omega), rfl⟩
  case round =>
    obtain ⟨n, hn, rfl, hp, hw⟩ := hrel
    have hw' := hw.symm
    subst hw'
    clear hw
    have HP : Hid (∀ j : Nat, n ≤ j → j < 512 → ks[j]? = some 0) := hp
    clear hp
    by_cases hcont : ∃ m, n = m + 1 ∧ ks[m]? = some 0
    · obtain ⟨m, rfl, hx⟩ := hcont
      have hcell := HA.out.cell hx
      have HX : Hid (ks[m]? = some 0) := hx
      have hm5 : m < 512 := by omega
      clear hx
      go_wp2
      go_roundw
      case rel => exact ⟨m, by omega, by go_num, fun j h1 h2 => by
        by_cases hj : j = m
        · subst hj; exact HX.out
        · exact HP.out j (by omega) h2, trivial⟩
      case measure => simp [intOf]
    · have hex : (decide (0 < n) = false ∧ n = 0) ∨ ∃ x, 0 < n ∧ ks[n - 1]? = some x ∧ ((x : Int) == 0) = false ∧ ¬ x = 0 := by
        by_cases hn0 : n = 0
        · exact .inl ⟨by subst hn0; rfl, hn0⟩
        · obtain ⟨x, hx⟩ : ∃ x, ks[n - 1]? = some x := exists_get (by have := HK.out; omega)
          have hx0 : ¬ x = 0 := fun h => hcont ⟨n - 1, by omega, by rw [hx, h]⟩
          exact .inr ⟨x, by omega, hx, by rw [beq_eq_false_iff_ne]; omega, hx0⟩
      have HT : Hid (topK ks = n) := by
        refine topK_eq (by rw [HK.out]; exact hn) (fun j h1 h2 => HP.out j h1 (by rw [HK.out] at h2; exact h2)) ?_
        rcases hex with ⟨_, h⟩ | ⟨x, _, hx, _, hne⟩
        · exact .inl h
        · exact .inr ⟨x, hx, hne⟩
      clear hcont HP
      have hgo : (decide (0 < n) = false) ∨ ∃ x : Nat, 0 < n ∧ wb.cell? ⟨w.heap.size, n - 1, none⟩ = some (.int .u8 (x : Int)) ∧ ((x : Int) == 0) = false := by
        rcases hex with ⟨h, _⟩ | ⟨x, h, hx, hb, _⟩
        · exact .inl h
        · exact .inr ⟨x, h, HA.out.cell hx, hb⟩
      clear hex
      rcases hgo with hgo | ⟨x, hpos, hcell, hb0⟩
      · go_wp2_with (first
          | (at_make; refine wpList_make_full _ rfl _ _ 30 rfl wb.heap.size 3 i0 (.int .i64 0) 1 under_ints hi hz0 hz1 .i64 .i64 _ _ n rfl rfl (by omega) (by omega) (by rw [hz2]; omega) (by unfold maxLen; omega) (Nat.le_refl _) ?_; intro w0 hown0 hgrow0))
        have hb0' : Below wb.heap.size wb w0 := (Below.refl _ _).grown hgrow0 (Nat.le_refl _) (by intro k hk; cases hk)
        have HO : Hid (OwI w0 wb.heap.size (.slice (some ⟨wb.heap.size, 0, none⟩) n n) ((ks.take 0).map Int.ofNat ++ List.replicate (n - 0) 0)) := by
          have := OwI.made hown0
          show OwI _ _ _ _
          simpa using this
        have HB0 : Hid (Below wb.heap.size wb w0) := hb0'
        clear hown0 hgrow0 hb0'
        go_loopw [21] (fun i wr => ∃ k : Nat, k ≤ n ∧ i = .int .i64 k ∧ OwI wr wb.heap.size (.slice (some ⟨wb.heap.size, 0, none⟩) n n) ((ks.take k).map Int.ofNat ++ List.replicate (n - k) 0) ∧ Below wb.heap.size wb wr) (fun i _ => n - (intOf i).toNat)
        case atStart => exact ⟨0, Nat.zero_le _, rfl, HO.out, HB0.out⟩
        case round =>
          obtain ⟨k, hk, rfl, hown, hbl⟩ := hrel
          have HW : Hid (OwI wr wb.heap.size (.slice (some ⟨wb.heap.size, 0, none⟩) n n) ((ks.take k).map Int.ofNat ++ List.replicate (n - k) 0)) := hown
          clear hown HO HB0
          by_cases hlt : k < n
          · obtain ⟨y, hy⟩ : ∃ y, ks[k]? = some y := exists_get (by have := HK.out; omega)
            have hlp : ((ks.take k).map Int.ofNat).length = k := by simp; have := HK.out; omega
            have hw := HW.out
            rw [show n - k = (n - (k + 1)) + 1 by omega, List.replicate_succ] at hw
            obtain ⟨hc1, hf1⟩ := hw.at (k := k) (x := 0) (by rw [List.getElem?_append_right (by omega), hlp, Nat.sub_self]; rfl)
            have hy8 := HB.out k y hy
            have hq := hw.put hbl (Nat.le_refl _) (by simp; have := HK.out; omega) (k := k) (z := (y : Int)) (by omega) (ys := (ks.take (k + 1)).map Int.ofNat ++ List.replicate (n - (k + 1)) 0) (by rw [set_mid _ _ _ _ _ hlp, take_getY hy]; simp)
            have HQ : Hid (OwI (wr.setCell ⟨wb.heap.size, k, none⟩ (.int .i64 (y : Int))) wb.heap.size (.slice (some ⟨wb.heap.size, 0, none⟩) n n) ((ks.take (k + 1)).map Int.ofNat ++ List.replicate (n - (k + 1)) 0) ∧ Below wb.heap.size wb (wr.setCell ⟨wb.heap.size, k, none⟩ (.int .i64 (y : Int)))) := hq
            have hcy := (HA.out.later hbl).cell hy
            have hk5 : k < 512 := by omega
            clear hq hw hy hlp
            go_wp2
            go_roundw
            case rel => exact ⟨k + 1, by omega, by go_num, HQ.out.1, HQ.out.2⟩
            case measure => simp [intOf]; omega
          · have hke : k = n := by omega
            subst hke
            have HF : Hid (OwI wr wb.heap.size (.slice (some ⟨wb.heap.size, 0, none⟩) k k) (unX ks)) := by
              have := HW.out
              rw [Nat.sub_self, List.replicate_zero, List.append_nil] at this
              unfold unX
              rw [HT.out]
              exact this
            go_wp2
            go_ret
            exact ⟨_, rfl, HF.out.mono (by omega), below_step HBl.out hbl⟩
      · go_wp2_with (first
          | (at_make; refine wpList_make_full _ rfl _ _ 30 rfl wb.heap.size 3 i0 (.int .i64 0) 1 under_ints hi hz0 hz1 .i64 .i64 _ _ n rfl rfl (by omega) (by omega) (by rw [hz2]; omega) (by unfold maxLen; omega) (Nat.le_refl _) ?_; intro w0 hown0 hgrow0))
        have hb0' : Below wb.heap.size wb w0 := (Below.refl _ _).grown hgrow0 (Nat.le_refl _) (by intro k hk; cases hk)
        have HO : Hid (OwI w0 wb.heap.size (.slice (some ⟨wb.heap.size, 0, none⟩) n n) ((ks.take 0).map Int.ofNat ++ List.replicate (n - 0) 0)) := by
          have := OwI.made hown0
          show OwI _ _ _ _
          simpa using this
        have HB0 : Hid (Below wb.heap.size wb w0) := hb0'
        clear hown0 hgrow0 hb0'
        go_loopw [21] (fun i wr => ∃ k : Nat, k ≤ n ∧ i = .int .i64 k ∧ OwI wr wb.heap.size (.slice (some ⟨wb.heap.size, 0, none⟩) n n) ((ks.take k).map Int.ofNat ++ List.replicate (n - k) 0) ∧ Below wb.heap.size wb wr) (fun i _ => n - (intOf i).toNat)
        case atStart => exact ⟨0, Nat.zero_le _, rfl, HO.out, HB0.out⟩
        case round =>
          obtain ⟨k, hk, rfl, hown, hbl⟩ := hrel
          have HW : Hid (OwI wr wb.heap.size (.slice (some ⟨wb.heap.size, 0, none⟩) n n) ((ks.take k).map Int.ofNat ++ List.replicate (n - k) 0)) := hown
          clear hown HO HB0
          by_cases hlt : k < n
          · obtain ⟨y, hy⟩ : ∃ y, ks[k]? = some y := exists_get (by have := HK.out; omega)
            have hlp : ((ks.take k).map Int.ofNat).length = k := by simp; have := HK.out; omega
            have hw := HW.out
            rw [show n - k = (n - (k + 1)) + 1 by omega, List.replicate_succ] at hw
            obtain ⟨hc1, hf1⟩ := hw.at (k := k) (x := 0) (by rw [List.getElem?_append_right (by omega), hlp, Nat.sub_self]; rfl)
            have hy8 := HB.out k y hy
            have hq := hw.put hbl (Nat.le_refl _) (by simp; have := HK.out; omega) (k := k) (z := (y : Int)) (by omega) (ys := (ks.take (k + 1)).map Int.ofNat ++ List.replicate (n - (k + 1)) 0) (by rw [set_mid _ _ _ _ _ hlp, take_getY hy]; simp)
            have HQ : Hid (OwI (wr.setCell ⟨wb.heap.size, k, none⟩ (.int .i64 (y : Int))) wb.heap.size (.slice (some ⟨wb.heap.size, 0, none⟩) n n) ((ks.take (k + 1)).map Int.ofNat ++ List.replicate (n - (k + 1)) 0) ∧ Below wb.heap.size wb (wr.setCell ⟨wb.heap.size, k, none⟩ (.int .i64 (y : Int)))) := hq
            have hcy := (HA.out.later hbl).cell hy
            have hk5 : k < 512 := by omega
            clear hq hw hy hlp
            go_wp2
            go_roundw
            case rel => exact ⟨k + 1, by omega, by go_num, HQ.out.1, HQ.out.2⟩
            case measure => simp [intOf]; omega
          · have hke : k = n := by omega
            subst hke
            have HF : Hid (OwI wr wb.heap.size (.slice (some ⟨wb.heap.size, 0, none⟩) k k) (unX ks)) := by
              have := HW.out
              rw [Nat.sub_self, List.replicate_zero, List.append_nil] at this
              unfold unX
              rw [HT.out]
              exact this
            go_wp2
            go_ret
            exact ⟨_, rfl, HF.out.mono (by omega), below_step HBl.out hbl⟩

end Go.Proofs.YtdjmjhlbjcgoiaaGreatDoor

/- What putAll answers. -/
namespace Go.Proofs.YtdjmjhlbjcgoiaaGreatDoor
open Go.RowKit Go.Maps

/-- Monomials put one after the other: what is left, and the error. -/
def puts : LkY → List Mn → LkY × Int
  | L, [] => (L, 0)
  | L, m :: r => if putE L (keyX m.2) m.1 = 0 then puts (putL L (keyX m.2) m.1) r else (putL L (keyX m.2) m.1, putE L (keyX m.2) m.1)

theorem wfK_keyX {es : List Int} (h : Small es) : WfK (keyX es) := by
  refine ⟨keyX_len h.1, fun j x hx => ?_⟩
  by_cases hj : j < es.length
  · obtain ⟨y, hy⟩ : ∃ y, es[j]? = some y := ⟨es[j], List.getElem?_eq_getElem hj⟩
    rw [keyX_get hy] at hx
    cases hx
    have := h.2 j y hy
    omega
  · have hl := keyX_len h.1
    have := (List.getElem?_eq_some_iff.1 hx).1
    rw [keyX_high (by omega) (by omega)] at hx
    cases hx
    omega

theorem len_putL {L : LkY} {k c : List Nat} (h : putE L k c = 0) (hL : L.length ≤ 256) : (putL L k c).length ≤ 256 := by
  unfold putE at h
  unfold putL
  split at h
  · rename_i h0
    rw [if_pos h0]
    split at h
    · assumption
    · omega
  · rename_i h0
    rw [if_neg h0]
    exact hL

set_option maxRecDepth 100000 in
set_option maxHeartbeats 3200000 in
theorem putAll_any (b base : Nat) (L : LkY) (p : List Mn) (v : Value) (w : World) (h : MapOk w base b L) (hp : Ms w v p) (hs : ∀ (k : Nat) (m : Mn), p[k]? = some m → Small m.2) (hL : L.length ≤ 256) (hB : base ≤ w.heap.size) :
    Calls Tryz.prog 66 #[.map (some b), v] w fun e w' => e = .returned (.int .i64 (puts L p).2) ∧ MapOk w' base b (puts L p).1 ∧ w.grownBy w' (some b) := by
  obtain ⟨ao, cap, rfl, hao, hca, q0⟩ := Row.flat hp
  unfold maxLen at hca
  have HM : Hid (Ms w (.slice ao p.length cap) p) := hp
  have HS : Hid (∀ (k : Nat) (m : Mn), p[k]? = some m → Small m.2) := hs
  have H0 : Hid (MapOk w base b L) := h
  obtain ⟨es0, clock0, hmap⟩ := h.isMap
  have HMap : Hid (w.heap[b]? = some (.map es0 clock0)) := hmap
  clear hp hs h q0 hmap
  go_enter Tryz.func66, Tryz.ntmps66
  go_wp2
  go_loopw [10] (fun i wr => ∃ (k : Nat) (M : LkY), k ≤ p.length ∧ i = .int .i64 k ∧ puts L p = puts M (p.drop k) ∧ M.length ≤ 256 ∧ MapOk wr base b M ∧ w.grownBy wr (some b)) (fun i _ => p.length - (intOf i).toNat)
  case atStart => exact ⟨0, L, by omega, rfl, rfl, hL, H0.out, World.grownBy.refl _ _⟩
  case round =>
    obtain ⟨k, M, hk, rfl, hpu, hM6, hmo, hgr⟩ := hrel
    have HP : Hid (puts L p = puts M (p.drop k)) := hpu
    have HMo : Hid (MapOk wr base b M) := hmo
    have HG : Hid (w.grownBy wr (some b)) := hgr
    have HKp : Hid (Kp w wr) := Kp.of_map hgr HMap.out
    have hBr : base ≤ wr.heap.size := Nat.le_trans hB hgr.size
    clear hpu hmo hgr
    by_cases hlt : k < p.length
    · obtain ⟨g, off, c, es, a1, c1, a2, c2, rfl, hm1, hc0, hc1, hmm, hl1, hl2, hl3, hl4⟩ := (HM.out.kp HKp.out).at hlt
      have HX : Hid (p[k]? = some (c, es)) := hm1
      have HSm : Hid (Small es) := HS.out k _ hm1
      have hbx := below_alloc (w := wr) (.cells #[.slice a1 c.length c1, .slice a2 es.length c2] 37)
      have HBX : Hid (Below wr.heap.size wr (wr.alloc (.cells #[.slice a1 c.length c1, .slice a2 es.length c2] 37))) := hbx
      have HMm : Hid (Mo (wr.alloc (.cells #[.slice a1 c.length c1, .slice a2 es.length c2] 37)) (.slice a1 c.length c1) (.slice a2 es.length c2) (c, es)) := hmm.kp (Kp.of_below hbx)
      clear hm1 hmm hbx
      go_upto_region 4 with fail
      obtain ⟨wb, hwb⟩ : ∃ wb, wb = wr.alloc (.cells #[.slice a1 c.length c1, .slice a2 es.length c2] 37) := ⟨_, rfl⟩
      have hd0 : wb.cell? ⟨wr.heap.size, 0, none⟩ = some (.slice a1 c.length c1) := by rw [hwb]; simp
      have hd1 : wb.cell? ⟨wr.heap.size, 1, none⟩ = some (.slice a2 es.length c2) := by rw [hwb]; simp
      rw [← hwb] at HBX HMm ⊢
      have hbd : Below wr.heap.size wr wb.drew := HBX.out.drew
      have HMb : Hid (MapOk wb.drew base b M) := HMo.out.later hbd
      have HMd : Hid (Mo wb.drew (.slice a1 c.length c1) (.slice a2 es.length c2) (c, es)) := HMm.out
      have HGb : Hid (w.grownBy wb.drew (some b)) := grown_trans HG.out (grown_of_below hbd _)
      have hBb : base ≤ wb.drew.heap.size := Nat.le_trans hBr hbd.size
      clear hwb hc0 hc1 hbd
      obtain ⟨E, hE⟩ : ∃ E, E = putE M (keyX es) c := ⟨_, rfl⟩
      have HE : Hid (E = putE M (keyX es) c) := hE
      clear hE
      go_cut [7] from 14 to 20 (fun x wx => x = .int .i64 E ∧ MapOk wx base b (putL M (keyX es) c) ∧ w.grownBy wx (some b))
      case first =>
        go_region_with (first
          | (go_at_call 115; refine (packed_any _ es _ HMd.out.2 HSm.out).mono ?_; rintro e w1 ⟨rfl, hb1⟩; have hx0 : w1.cell? ⟨wr.heap.size, 0, none⟩ = some (.slice a1 c.length c1) := (Kp.of_below hb1).cell _ _ hd0)
          | (go_at_call 117; refine (put_any b base M (keyX es) c _ _ (HMb.out.later hb1) (wfK_keyX HSm.out) (HMd.out.1.kp (Kp.of_below hb1)) hM6 (Nat.le_trans hBb hb1.size)).mono ?_; rintro e w2 ⟨rfl, hm2, hg2⟩))
        all_goals (go_wp2_with fail; go_meet; exact ⟨by rw [HE.out], hm2, grown_trans HGb.out (grown_trans (grown_of_below hb1 _) hg2)⟩)
      case rest =>
        obtain ⟨rfl, hm2, hg2⟩ := hcut
        have HM2 : Hid (MapOk wc base b (putL M (keyX es) c)) := hm2
        have HG2 : Hid (w.grownBy wc (some b)) := hg2
        clear hm2 hg2 hd0 hd1
        by_cases hE0 : E = 0
        · subst hE0
          go_wp2
          go_roundw
          case rel =>
            refine ⟨k + 1, putL M (keyX es) c, by omega, by go_num, ?_, len_putL HE.out.symm hM6, HM2.out, HG2.out⟩
            rw [HP.out, drop_getY HX.out, puts, if_pos HE.out.symm]
          case measure => simp [intOf]; omega
        · have hb0 : (E != 0) = true := by rw [bne_iff_ne]; exact hE0
          have HF : Hid (puts L p = (putL M (keyX es) c, E)) := by
            show puts L p = _
            rw [HP.out, drop_getY HX.out, puts, if_neg (by rw [← HE.out]; exact hE0), ← HE.out]
          go_wp2
          go_ret
          exact ⟨ret1i (by rw [HF.out]), by rw [HF.out]; exact HM2.out, HG2.out⟩
    · have hke : k = p.length := by omega
      subst hke
      have HF : Hid (puts L p = (M, 0)) := by
        show puts L p = _
        rw [HP.out, List.drop_of_length_le (Nat.le_refl _)]; rfl
      go_wp2
      go_ret
      exact ⟨ret1i (by rw [HF.out]), by rw [HF.out]; exact HMo.out, HG.out⟩

end Go.Proofs.YtdjmjhlbjcgoiaaGreatDoor

/- What a range over the map collects. -/
namespace Go.Proofs.YtdjmjhlbjcgoiaaGreatDoor
open Go.RowKit Go.Maps

theorem info_key : (Tryz.prog.info? 160).map (fun i => (i.zero, i.size, i.bytes)) = some (some (.agg Tryz.zeroCells160), 512, 512) := by kernel_rfl

theorem under_keys : Tryz.prog.underlying 165 = some (.slice 160) := by kernel_rfl

theorem foldl_set : ∀ (l : List Value) (n : Nat) (acc : Array Value), n + l.length ≤ acc.size → ∀ k, ((l.zipIdx n).foldl (fun (cs : Array Value) (p : Value × Nat) => cs.setIfInBounds (0 + p.2) p.1) acc)[k]? = if n ≤ k ∧ k < n + l.length then l[k - n]? else acc[k]?
  | [], n, acc, _, k => by simp; intro h1 h2; omega
  | x :: r, n, acc, h, k => by
    simp only [List.length_cons] at h
    rw [List.zipIdx_cons, List.foldl_cons, foldl_set r (n + 1) _ (by simp; omega) k]
    simp only [List.length_cons, Nat.zero_add]
    by_cases h1 : n + 1 ≤ k ∧ k < n + 1 + r.length
    · rw [if_pos h1, if_pos (by omega), show k - n = (k - (n + 1)) + 1 by omega, List.getElem?_cons_succ]
    · rw [if_neg h1]
      by_cases h2 : k = n
      · subst h2
        rw [if_pos (by omega), Nat.sub_self, List.getElem?_cons_zero, Array.getElem?_setIfInBounds_self_of_lt (by omega)]
      · rw [if_neg (by omega), Array.getElem?_setIfInBounds_ne (fun e => h2 e.symm)]

theorem fill_whole {cs old : Array Value} {sz : Nat} (h : cs.size = sz) (h' : old.size = sz) : Instr.fill (fun i => some (i * sz, sz)) old [(0, .agg cs)] = some cs := by
  have hc : (Value.agg cs).cells = cs := rfl
  unfold Instr.fill
  simp only [hc, Nat.zero_mul]
  rw [if_neg (by simp; omega)]
  unfold Instr.fill
  congr 1
  apply Array.ext_getElem?
  intro k
  rw [← Array.foldl_toList, Array.toList_zipIdx]
  rw [foldl_set cs.toList 0 old (by simp; omega) k]
  simp only [Nat.zero_add, Nat.sub_zero, Array.length_toList, Nat.zero_le, true_and]
  by_cases hk : k < cs.size
  · rw [if_pos hk]; simp
  · rw [if_neg hk, Array.getElem?_eq_none (by omega), Array.getElem?_eq_none (by omega)]

theorem run_buildKey (w : World) {k : List Nat} (h : k.length = 512) : (Instr.buildSlice 165 1 #[(0, .agg (arr k))]).run Tryz.prog w = .ok (.slice (some ⟨w.heap.size, 0, none⟩) 1 1) (w.alloc (.cells (arr k) 160)) := by
  obtain ⟨i0, hi, hz0, hz1, hz2⟩ := info_parts info_key
  refine run_buildSlice w _ _ 1 _ (arr k) i0 _ under_keys hi hz0 (by rw [hz1]; omega) (by rw [hz1]; omega) ?_
  rw [hz1]
  exact fill_whole (by rw [arr_size, h]) (by simp)

section

variable {P : Program} {w w' : World} {ops : Array Oper} {rest : List Oper} {o : Oper} {a : Act} {Q : Exit → Act → World → Prop}

theorem wpList_buildSlice_run (hg : o.guard = none) (t : TypeId) (len : Nat) (parts : Array (Nat × Operand)) (ho : o.op = .buildSlice t len parts) (vals : Array (Nat × Value)) (hv : (parts.map fun (i, x) => (i, a.eval x)) = vals) (r : Value)
    (hrun : (Instr.buildSlice t len vals).run P w = .ok r w') (h : wpList P ops Q rest (a.put o.dst r) w') : wpList P ops Q (o :: rest) a w := by
  refine wpList_plain hg fun K' hK' => ?_
  unfold Oper.wp execOp
  simp only [ho, Sem.run_bind, hv, hrun, Result.andThen_ok]
  exact hK' _ _ h

end

/-- What has been collected so far, and what is still to come. -/
structure Col (L : LkY) (kss : List (List Nat)) (left : Lit → Bool) : Prop where
  nodup : kss.Nodup
  mem : ∀ ks ∈ kss, hasK L ks = true
  leftIff : ∀ p ∈ L, (left (kl p.1) = true ↔ p.1 ∉ kss)
  only : ∀ l, left l = true → ∃ p ∈ L, l = kl p.1

theorem sameKey_kl {a b : List Nat} (ha : WfK a) (hb : WfK b) : (kl a).sameKey (kl b) = decide (a = b) := by
  by_cases h : a = b
  · subst h
    rw [WideAt.sameKey_self (keyed.key (keyOf_arr ha))]; simp
  · rw [sameKey_ne (fun e => h (kl_inj ha hb e))]; simp [h]

theorem Col.step {L : LkY} {kss : List (List Nat)} {left : Lit → Bool} (h : Col L kss left) (hk : ∀ p ∈ L, WfK p.1) {p : List Nat × List Nat} (hp : p ∈ L) (hl : left (kl p.1) = true) :
    Col L (kss ++ [p.1]) (fun z => left z && !z.sameKey (kl p.1)) := by
  have hn := (h.leftIff p hp).1 hl
  refine ⟨?_, fun ks hks => ?_, fun q hq => ?_, fun l hl' => ?_⟩
  · rw [List.nodup_append]
    refine ⟨h.nodup, by simp, fun a ha b hb => ?_⟩
    simp only [List.mem_singleton] at hb
    subst hb
    exact fun e => hn (e ▸ ha)
  · rcases List.mem_append.1 hks with hks | hks
    · exact h.mem ks hks
    · simp only [List.mem_singleton] at hks
      subst hks
      exact hasK_iff.2 ⟨p.2, hp⟩
  · simp only [Bool.and_eq_true, Bool.not_eq_true', sameKey_kl (hk q hq) (hk p hp), decide_eq_false_iff_not, h.leftIff q hq, List.mem_append, List.mem_singleton, not_or]
  · simp only [Bool.and_eq_true] at hl'
    exact h.only l hl'.1

theorem Col.start {w : World} {base b : Nat} {L : LkY} {D : DataW Value} (_hm : MapOk w base b L) (h3 : ∀ k c, (k, c) ∈ L → ∃ v, (∀ z, D.atKey (kl k) z = .held (.agg #[v])) ∧ Ow w base v c ∧ Maps.has D (kl k) = true) (h4 : ∀ l, Maps.has D l = true → ∃ k c, (k, c) ∈ L ∧ l = kl k) : Col L [] (Maps.has D) := by
  refine ⟨by simp, fun ks h => (by cases h), fun p hp => ?_, fun l hl => ?_⟩
  · obtain ⟨_, _, _, h⟩ := h3 p.1 p.2 hp
    simp [h]
  · obtain ⟨k, c, h, e⟩ := h4 l hl
    exact ⟨(k, c), h, e⟩

/-- All has been collected: sorted, these are the map's keys. -/
theorem Col.sorted {L : LkY} {kss : List (List Nat)} {left : Lit → Bool} (h : Col L kss left) (hr : Rising L) (h0 : ∀ l, left l = false) : kss.mergeSort leK = L.map (·.1) := by
  have hle : ∀ a b, leK a b = true ↔ ¬ ltK b a := by intro a b; simp [leK]
  have hkeys : (L.map (·.1)).Pairwise ltK := List.pairwise_map.2 hr
  have hnd : (L.map (·.1)).Nodup := hkeys.imp (fun {a b} (hab : ltK a b) (e : a = b) => ltK_irrefl b (by rw [e] at hab; exact hab))
  have hperm : kss.Perm (L.map (·.1)) := by
    rw [List.perm_ext_iff_of_nodup h.nodup hnd]
    intro ks
    constructor
    · intro hk
      obtain ⟨c, hc⟩ := hasK_iff.1 (h.mem ks hk)
      exact List.mem_map.2 ⟨(ks, c), hc, rfl⟩
    · intro hk
      obtain ⟨p, hp, rfl⟩ := List.mem_map.1 hk
      by_cases hin : p.1 ∈ kss
      · exact hin
      · have := (h.leftIff p hp).2 hin
        rw [h0] at this
        cases this
  have htr : ∀ a b c, leK a b = true → leK b c = true → leK a c = true := by
    intro a b c h1 h2
    rw [hle] at *
    intro h3
    by_cases e : b = c
    · subst e; exact h1 h3
    · exact h1 (ltK_trans (ltK_or (fun e2 => e e2.symm) h2) h3)
  have htot : ∀ a b, (leK a b || leK b a) = true := by
    intro a b
    rw [Bool.or_eq_true, hle, hle]
    by_cases e : ltK b a
    · right; exact fun h2 => ltK_irrefl _ (ltK_trans e h2)
    · exact .inl e
  have hs1 : (kss.mergeSort leK).Pairwise (fun a b => leK a b = true) := List.pairwise_mergeSort htr htot kss
  have hs2 : (L.map (·.1)).Pairwise (fun a b => leK a b = true) := hkeys.imp (fun {a b} hab => (hle a b).2 (fun h2 => ltK_irrefl _ (ltK_trans hab h2)))
  have hp2 : (kss.mergeSort leK).Perm (L.map (·.1)) := (List.mergeSort_perm kss leK).trans hperm
  refine hp2.eq_of_pairwise (le := fun a b => leK a b = true) (fun a b _ _ h1 h2 => ?_) hs1 hs2
  rw [hle] at h1 h2
  by_cases e : a = b
  · exact e
  · exact absurd (ltK_or e h2) h1

end Go.Proofs.YtdjmjhlbjcgoiaaGreatDoor

/- Laws for the region in which the row grows. -/
namespace Go.Proofs.YtdjmjhlbjcgoiaaGreatDoor
open Go.RowKit Go.Maps

theorem MapOk.lookAll {w : World} {base b : Nat} {L : LkY} (h : MapOk w base b L) {p : List Nat × List Nat} (hp : p ∈ L) {D : DataW Value}
    (_hD : w.ownsMap Tryz.prog 160 RVY b L.length D) (h3 : ∀ k c, (k, c) ∈ L → ∃ v, (∀ z, D.atKey (kl k) z = .held (.agg #[v])) ∧ Ow w base v c ∧ Maps.has D (kl k) = true) :
    ∃ u, Ow w base u p.2 ∧ ∀ w' : World, w'.ownsMap Tryz.prog 160 RVY b L.length D → (Instr.lookup 109 (.map (some b)) (.agg (cellsL p.1).toArray) false).run Tryz.prog w' = .ok (.agg #[u]) w' := by
  obtain ⟨u, ha, ho, _⟩ := h3 p.1 p.2 hp
  refine ⟨u, ho, fun w' hw' => ?_⟩
  obtain ⟨x, ps, hrun, hR⟩ := hw'.lookup keyed under_map (zeroCoef w') (zd := .held (.agg #[.slice none 0 0])) (zp := []) rfl (keyOf_arr (h.keys p hp))
  rw [ha] at hR
  simp only [RVY, Option.some.injEq, Prod.mk.injEq, DataW.held.injEq] at hR
  rw [hR.1] at hrun
  exact hrun

section

variable {w w' : World} {g b n : Nat} {k : List Nat} {D : DataW Value}

theorem keepA (h : w.rangeAt g 0 (cellsL k) ∧ w.ownsMap Tryz.prog 160 RVY b n D) (hb : Below w.heap.size w w') : w'.rangeAt g 0 (cellsL k) ∧ w'.ownsMap Tryz.prog 160 RVY b n D :=
  ⟨fun j v hj => (Kp.of_below hb).cell _ _ (h.1 j v hj), h.2.kept (grown_of_below hb none) (by simp)⟩

theorem keepG {row : Option Nat} (h : w.rangeAt g 0 (cellsL k) ∧ w.ownsMap Tryz.prog 160 RVY b n D) (hg : w.grownBy w' row) (h1 : some g ≠ row) (h2 : some b ≠ row) : w'.rangeAt g 0 (cellsL k) ∧ w'.ownsMap Tryz.prog 160 RVY b n D :=
  ⟨fun j v hj => by
    have hc := h.1 j v hj
    rw [World.cell?_of_block (hg.block g (World.block_lt_of_cell? w _ hc) h1)]
    exact hc, h.2.kept hg h2⟩

end

theorem OM.snoc {w w' : World} {base : Nat} {v v' : Value} {p : List Mn} {cs : List (Value × Value)} {cv ev : Value} {m : Mn} {row : Option Nat}
    (hl : cs.length = p.length) (hc : ∀ (i : Nat) (c : Value × Value) (m : Mn), cs[i]? = some c → p[i]? = some m → Ow w base c.1 m.1 ∧ OwI w base c.2 m.2) (ho : w.ownsRow base 37 2 v p.length (cs.flatMap fun c => [c.1, c.2]))
    (h1 : Ow w base cv m.1) (h2 : OwI w base ev m.2) (ho' : w'.ownsRow base 37 2 v' (p.length + 1) ((cs.flatMap fun c => [c.1, c.2]) ++ [cv, ev])) (hg : w.grownBy w' row) (hr : row = v.ownBlock) :
    OM w' base v' (p ++ [m]) := by
  subst hr
  refine ⟨cs ++ [(cv, ev)], by simp [hl], fun i c q hi hq => ?_, by simpa using ho'⟩
  have k1 : ∀ {u : Value} {xs : List Nat}, Ow w base u xs → Ow w' base u xs := fun h => h.held hg (ownsRow_apart h.2 ho (by decide))
  have k2 : ∀ {u : Value} {xs : List Int}, OwI w base u xs → OwI w' base u xs := fun h => h.kept hg (ownsRow_apart h.2 ho (by decide))
  by_cases hi2 : i < cs.length
  · rw [List.getElem?_append_left hi2] at hi
    rw [List.getElem?_append_left (by omega)] at hq
    exact ⟨k1 (hc i c q hi hq).1, k2 (hc i c q hi hq).2⟩
  · rw [List.getElem?_append_right (by omega)] at hi
    rw [List.getElem?_append_right (by omega)] at hq
    have e0 : i - cs.length = 0 := by
      have := (List.getElem?_eq_some_iff.1 hi).1
      simp at this
      omega
    rw [e0] at hi
    rw [← hl, e0] at hq
    simp only [List.getElem?_cons_zero, Option.some.injEq] at hi hq
    subst hi
    subst hq
    exact ⟨k1 h1, k2 h2⟩

end Go.Proofs.YtdjmjhlbjcgoiaaGreatDoor

/- The polynomial of a map of like monomials. -/
namespace Go.Proofs.YtdjmjhlbjcgoiaaGreatDoor
open Go.RowKit Go.Maps

theorem OwK.slice {w : World} {base : Nat} {v : Value} {kss : List (List Nat)} (h : OwK w base v kss) : ∃ ao cap, v = .slice ao kss.length cap := by
  rcases h.2 with ⟨rfl, hn⟩ | ⟨g, cap, cur, rfl, _⟩
  · exact ⟨_, 0, by rw [hn]⟩
  · exact ⟨_, cap, rfl⟩

theorem OwK.notIter {w : World} {base r : Nat} {v : Value} {kss : List (List Nat)} {m : Option Nat} {s c : Nat} {seen : Array Nat} (h : OwK w base v kss) (hr : w.heap[r]? = some (.mapIter m s seen c)) : v.ownBlock = none ∨ v.ownBlock ≠ some r := by
  rcases h.2 with ⟨rfl, _⟩ | ⟨g, cap, cur, rfl, _, hg, _⟩
  · exact .inl rfl
  · refine .inr ?_
    simp only [Value.ownBlock]
    intro e
    cases e
    rw [hg] at hr
    cases hr

theorem OwK.notMap {w : World} {base b : Nat} {v : Value} {kss : List (List Nat)} {es : Array MapEntry} {clock : Nat} (h : OwK w base v kss) (hb : w.heap[b]? = some (.map es clock)) : some b ≠ v.ownBlock := by
  rcases h.2 with ⟨rfl, _⟩ | ⟨g, cap, cur, rfl, _, hg, _⟩
  · simp [Value.ownBlock]
  · simp only [Value.ownBlock]
    intro e
    cases e
    rw [hg] at hb
    cases hb

theorem OwK.base {w : World} {base : Nat} {v : Value} {kss : List (List Nat)} (h : OwK w base v kss) : ∀ k, v.ownBlock = some k → base ≤ k := by
  intro k hk
  rcases h.2 with ⟨rfl, _⟩ | ⟨g, cap, cur, rfl, hb, _⟩
  · cases hk
  · simp only [Value.ownBlock, Option.some.injEq] at hk
    omega

theorem ranges_iter {w : World} {b r n cnt : Nat} {D : DataW Value} {left : Lit → Bool} (h : w.ranges Tryz.prog 160 RVY b r n D left cnt) : (∃ m s seen c, w.heap[r]? = some (.mapIter m s seen c)) ∧ ∃ es clock, w.heap[b]? = some (.map es clock) := by
  obtain ⟨es, clock, since, seen, c0, hb, _, _, _, hit, _⟩ := h
  exact ⟨⟨_, _, _, _, hit⟩, _, _, hb⟩

theorem OwK.held {w w' : World} {base : Nat} {v : Value} {kss : List (List Nat)} {row : Option Nat} (h : OwK w base v kss) (hg : w.grownBy w' row) (hne : v.ownBlock = none ∨ v.ownBlock ≠ row) : OwK w' base v kss := World.ownsRow.kept h hg hne

theorem grown_alloc_set (w : World) (o : Obj) (cs : Array Value) (o' : Obj) : w.grownBy (((w.alloc o).setRow w.heap.size cs).alloc o') none := by
  have h1 : Below w.heap.size w ((w.alloc o).setRow w.heap.size cs) := below_setRowY (below_alloc o) (Nat.le_refl _)
  exact grown_of_below (below_step h1 (below_alloc o')) none

theorem flat_snoc (kss : List (List Nat)) (k : List Nat) : kss.flatMap cellsL ++ cellsL k = (kss ++ [k]).flatMap cellsL := by simp

/-- The polynomial. -/
def rowLY (L : LkY) : List Mn := L.map fun p => ((p.2, unX p.1) : Mn)

theorem OwK.cellsAt {w : World} {base g n cap : Nat} {kss : List (List Nat)} (h : OwK w base (.slice (some ⟨g, 0, none⟩) n cap) kss) (hw : ∀ ks ∈ kss, WfK ks) (hn : n = kss.length) {k : Nat} {ks : List Nat} (hk : kss[k]? = some ks) : w.rangeAt g (k * 512) (cellsL ks) := by
  subst hn
  intro j v hj
  have h5 : j < 512 := by
    have := (List.getElem?_eq_some_iff.1 hj).1
    rw [len_cellsL (hw ks (List.mem_of_getElem? hk))] at this
    exact this
  have hkl := (List.getElem?_eq_some_iff.1 hk).1
  have hf := flat_get hw hk h5
  rw [hj] at hf
  have hb : k * 512 + j < kss.length * 512 := by omega
  rw [World.ownsRow.cellAt h _ hb]
  obtain ⟨ha, hb'⟩ := List.getElem?_eq_some_iff.1 hf
  simp [← hb']

theorem OwK.some {w : World} {base : Nat} {ao : Option Addr} {n cap : Nat} {kss : List (List Nat)} (h : OwK w base (.slice ao n cap) kss) (h0 : 0 < kss.length) : ∃ g, ao = some ⟨g, 0, none⟩ := by
  rcases h.2 with ⟨hv, hn⟩ | ⟨g, cap, cur, hv, _⟩
  · omega
  · simp only [Value.slice.injEq] at hv
    exact ⟨g, hv.1⟩

theorem OM.mono {w : World} {base b' : Nat} {v : Value} {p : List Mn} (h : OM w base v p) (hb : b' ≤ base) : OM w b' v p := by
  obtain ⟨cs, hl, hc, ho⟩ := h
  refine ⟨cs, hl, fun i c m h1 h2 => ⟨(hc i c m h1 h2).1.mono hb, (hc i c m h1 h2).2.mono hb⟩, ho.1, ?_⟩
  rcases ho.2 with h | ⟨g, cap, cur, rfl, hg, r⟩
  · exact .inl h
  · exact .inr ⟨g, cap, cur, rfl, Nat.le_trans hb hg, r⟩

set_option maxRecDepth 100000 in
set_option maxHeartbeats 1000000 in
theorem row_any (b base : Nat) (L : LkY) (w : World) (h : MapOk w base b L) (hL : L.length ≤ 257) (hbase : base ≤ w.heap.size) :
    Calls Tryz.prog 67 #[.map (some b)] w fun e w' => ∃ v, e = .returned v ∧ OM w' base v (rowLY L) ∧ Below w.heap.size w w' := by
  obtain ⟨i0, hi, hz0, hz1, hz2⟩ := info_parts info_key
  have HM : Hid (MapOk w base b L) := h
  obtain ⟨D, hD1, hD2, hD3, hD4⟩ := h.own
  have HCol : Hid (Col L [] (Maps.has D)) := Col.start h hD3 hD4
  have HD3 : Hid (∀ k c, (k, c) ∈ L → ∃ v, (∀ z, D.atKey (kl k) z = .held (.agg #[v])) ∧ Ow w base v c ∧ Maps.has D (kl k) = true) := hD3
  have HD1 : Hid (w.ownsMap Tryz.prog 160 RVY b L.length D) := hD1
  have HD2 : Hid (Maps.size D = L.length) := hD2
  have HLen : Hid (∀ ty, (Builtin.len_ #[109] ty #[.map (some b)]).run Tryz.prog w = .ok (.int .i64 (L.length : Int)) w) := fun ty => h.len ty
  have hzs : (Value.agg Tryz.zeroCells160).cells.size = 512 := Tryz.zeroCells160_size
  have hzs2 : Tryz.zeroCells160.size = 512 := Tryz.zeroCells160_size
  have hblt := h.lt
  clear h hD1 hD2 hD3 hD4
  go_enter Tryz.func67, Tryz.ntmps67
  go_wp2_with fail
  rw [HLen.out]
  go_wp2_with (first
    | (at_make; refine wpList_make_own _ rfl _ _ 165 rfl w.heap.size 160 i0 _ 512 under_keys hi hz0 hz1 .i64 .i64 _ L.length rfl rfl rfl (by rw [hz2]; omega) (by unfold maxLen; omega) (Nat.le_refl _) ?_; intro w0 hown0 hgrow0)
    | (at_range; refine wpList_range_own _ rfl _ _ rfl _ _ keyed under_map RVY b L.length D rfl (HD1.out.kept hgrow0 (by simp)) ?_; intro w1 hrg hg1 hs1))
  have hB1 : Below w.heap.size w w1 := ((Below.refl _ _).grown hgrow0 (Nat.le_refl _) (by intro k hk; cases hk)).grown hg1 hgrow0.size (by intro k hk; cases hk)
  have HO1 : Hid (OwK w1 w.heap.size (.slice (some ⟨w.heap.size, 0, none⟩) 0 L.length) []) := World.ownsRow.kept hown0 hg1 (.inr (by simp [Value.ownBlock]))
  obtain ⟨R0, hR0⟩ : ∃ R0, R0 = w0.heap.size := ⟨_, rfl⟩
  rw [← hR0] at hrg ⊢
  have HRg : Hid (w1.ranges Tryz.prog 160 RVY b R0 L.length D (Maps.has D) (Maps.size D)) := hrg
  have hRw : w.heap.size ≤ R0 := by rw [hR0]; exact hgrow0.size
  have HBB : Hid (Below w.heap.size w w1) := hB1
  clear hown0 hgrow0 hg1 hs1 hrg hB1 hR0
  simp only [Act.put, List.setIfInBounds_toArray, List.set_cons_succ, List.set_cons_zero]
  go_loopw [3] (fun v wr => ∃ (kss : List (List Nat)) (left : Lit → Bool) (cnt : Nat), OwK wr w.heap.size v kss ∧ wr.ranges Tryz.prog 160 RVY b R0 L.length D left cnt ∧ Col L kss left ∧ kss.length + cnt ≤ L.length ∧ Below w.heap.size w wr) (fun _ wr => wr.rangeLeft b R0)
  case atStart => exact ⟨[], Maps.has D, Maps.size D, HO1.out, HRg.out, HCol.out, by rw [HD2.out]; simp, HBB.out⟩
  case round =>
    obtain ⟨kss, left, cnt, ho, hrg, hcol, hcnt, hbl⟩ := hrel
    obtain ⟨ao, cap, rfl⟩ := ho.slice
    have hle := hrg.left_eq
    have HO : Hid (OwK wr w.heap.size (.slice ao kss.length cap) kss) := ho
    have HR : Hid (wr.ranges Tryz.prog 160 RVY b R0 L.length D left cnt) := hrg
    have HC : Hid (Col L kss left) := hcol
    have HLe : Hid (wr.rangeLeft b R0 = cnt) := hle
    clear ho hrg hcol hle HO1 HRg HCol HBB HLen
    go_wp2_with (first
      | (at_next; refine wpList_next_ranges _ rfl _ rfl 160 keyed RVY (id : Value → Value) (id : Value → Value) (fun key _ _ => ⟨key, rfl⟩) (fun v _ _ => ⟨v, rfl⟩) b R0 L.length D left cnt rfl HR.out ?_ ?_))
    case refine_2 =>
      intro key cc l yd yp w2 cnt2 hkey hlk hv hat hrg2 hlt hg2 hs2 hen
      obtain ⟨p, hp, rfl⟩ := HC.out.only l hlk
      have hWp := HM.out.keys p hp
      obtain rfl : key = .agg (arr p.1) := keyed.inj hkey (keyOf_arr hWp)
      have h512 := hWp.1
      obtain ⟨⟨_, _, _, _, hit⟩, _⟩ := ranges_iter HR.out
      have ho2 := HO.out.held hg2 (HO.out.notIter hit)
      have hga := grown_alloc_set w2 (.cells Tryz.zeroCells160 160) (arr p.1) (.cells (arr p.1) 160)
      have ho3 := ho2.held hga (by cases hv : (Value.slice ao kss.length cap).ownBlock <;> simp)
      have hrg3 := hrg2.kept hga (by simp) (by simp)
      have hbl3 : Below w.heap.size w (((w2.alloc (.cells Tryz.zeroCells160 160)).setRow w2.heap.size (arr p.1)).alloc (.cells (arr p.1) 160)) :=
        (hbl.grown hg2 hbl.size (by intro k hk; cases hk; exact hRw)).grown hga (Nat.le_trans hbl.size hg2.size) (by intro k hk; cases hk)
      have HO3 : Hid (OwK (((w2.alloc (.cells Tryz.zeroCells160 160)).setRow w2.heap.size (arr p.1)).alloc (.cells (arr p.1) 160)) w.heap.size (.slice ao kss.length cap) kss) := ho3
      have HR3 : Hid ((((w2.alloc (.cells Tryz.zeroCells160 160)).setRow w2.heap.size (arr p.1)).alloc (.cells (arr p.1) 160)).ranges Tryz.prog 160 RVY b R0 L.length D (fun z => left z && !z.sameKey (kl p.1)) cnt2) := hrg3
      have HB3 : Hid (Below w.heap.size w (((w2.alloc (.cells Tryz.zeroCells160 160)).setRow w2.heap.size (arr p.1)).alloc (.cells (arr p.1) 160))) := hbl3
      have HCs : Hid (Col L (kss ++ [p.1]) (fun z => left z && !z.sameKey (kl p.1))) := HC.out.step HM.out.keys hp hlk
      have HWp : Hid (WfK p.1) := hWp
      have HLt : Hid (cnt2 < cnt) := hlt
      have hkl : kss.length ≤ 257 := by omega
      have HNew : Hid (∀ (j : Nat) (u : Value), (cellsL p.1)[j]? = some u → (((w2.alloc (.cells Tryz.zeroCells160 160)).setRow w2.heap.size (arr p.1)).alloc (.cells (arr p.1) 160)).cell? ((⟨((w2.alloc (.cells Tryz.zeroCells160 160)).setRow w2.heap.size (arr p.1)).heap.size, 0, none⟩ : Addr).add j) = some u) := by
        intro j u hu
        rw [Addr.add_lit, Nat.zero_add, cell_of_row _ _ _ _ _ _ (heap_alloc_new _ _), arr_cells]
        simpa using hu
      have hcl512 := len_cellsL hWp
      have HOne : Hid (∀ u ∈ cellsL p.1, u.oneCell' = true) := by
        intro u hu
        obtain ⟨n, _, rfl⟩ := List.mem_map.1 hu
        rfl
      clear hkey hlk hv hat hrg2 hlt hg2 hs2 hit ho2 hga ho3 hrg3 hbl3 hWp hp
      go_wp2_with (first
        | (refine wpList_store_row rfl _ _ _ rfl w2.heap.size (arr p.1) rfl rfl _ _ (heap_alloc_new w2 _) (by rw [info_arr, arr_size, h512]) (by rw [arr_size, h512, hzs2]) (arr_one _) ?_)
        | (refine wpList_load_row rfl _ _ rfl w2.heap.size rfl _ _ _ _ (setRow_heap _ _ _ _ _ _ (heap_alloc_new w2 _)) under_arr rfl (by rw [info_arr, arr_size, h512]) ?_)
        | (refine wpList_buildSlice_run rfl _ _ _ rfl #[(0, .agg (arr p.1))] (by simp [Act.put, Act.eval]) _ (run_buildKey _ h512) ?_)
        | (at_builtin; refine wpList_append_own _ rfl _ _ 165 rfl w.heap.size 160 i0 _ 512 512 under_keys hi hz0 hz1 hz2 hzs (by decide) (.slice ao kss.length cap) kss.length (kss.flatMap cellsL) rfl HO3.out _ 1 1 (cellsL p.1) rfl (by rw [hcl512]) HNew.out HOne.out (by unfold maxLen; omega) (by omega) HB3.out.size ?_; intro v' w5 hown' hgrow' hnil))
      have hr5 := HR3.out.kept hgrow' (HO3.out.notMap (ranges_iter HR3.out).2.choose_spec.choose_spec) (by
        obtain ⟨⟨_, _, _, _, hit⟩, _⟩ := ranges_iter HR3.out
        rcases HO3.out.notIter hit with h | h
        · rw [h]; simp
        · exact fun e => h e.symm)
      refine ⟨⟨kss ++ [p.1], _, cnt2, ?_, hr5, HCs.out, by have := HLt.out; simp; omega, HB3.out.grown hgrow' HB3.out.size HO3.out.base⟩, by rw [hr5.left_eq, HLe.out]; exact HLt.out⟩
      unfold OwK
      rw [← flat_snoc, List.length_append]
      exact hown'
    case refine_1 =>
      intro hc0 hl0
      have hs := HC.out.sorted HM.out.rising hl0
      have HS : Hid (kss.mergeSort leK = L.map (·.1)) := hs
      have hkl : kss.length = L.length := by
        have := congrArg List.length hs
        simpa using this
      have HW : Hid (∀ ks ∈ kss, WfK ks) := fun ks hk => by
        obtain ⟨c, hc⟩ := hasK_iff.1 (HC.out.mem ks hk)
        exact HM.out.keys _ hc
      rw [hkl] at HO ⊢
      have HKL : Hid (kss.length = L.length) := hkl
      clear hc0 hl0 hs hkl
      go_wp2_with fail
      refine (sortKeys_any kss _ _ w.heap.size HW.out HO.out (by rw [HKL.out]; omega)).mono ?_
      rintro e w2 ⟨rfl, ho2, hg2⟩
      rw [HS.out] at ho2
      have HO2 : Hid (OwK w2 w.heap.size (.slice ao L.length cap) (L.map (·.1))) := ho2
      have HB2 : Hid (Below w.heap.size w w2) := hbl.grown hg2 hbl.size HO.out.base
      clear ho2 hg2 hbl HC HR HO HLe HS HW
      go_wp2
      go_loopw [5, 25] (fun v i wr => ∃ k : Nat, k ≤ L.length ∧ i = .int .i64 k ∧ OM wr base v ((rowLY L).take k) ∧ OwK wr w.heap.size (.slice ao L.length cap) (L.map (·.1)) ∧ (∀ j, v.ownBlock = some j → w.heap.size ≤ j) ∧ Below w.heap.size w wr) (fun _ i _ => L.length - (intOf i).toNat)
      case atStart => exact ⟨0, Nat.zero_le _, rfl, OM.nil _ _, HO2.out, fun j hj => (by cases hj), HB2.out⟩
      case round =>
        obtain ⟨k, hk, rfl, hom, hok, hvb, hbl⟩ := hrel
        have HVB : Hid (∀ j, u5.ownBlock = some j → w.heap.size ≤ j) := hvb
        clear hvb
        have HOm : Hid (OM wr base u5 ((rowLY L).take k)) := hom
        have HOk : Hid (OwK wr w.heap.size (.slice ao L.length cap) (L.map (·.1))) := hok
        clear hom hok HO2 HB2
        by_cases hlt : k < L.length
        · obtain ⟨g, rfl⟩ := HOk.out.some (by simpa using Nat.lt_of_le_of_lt (Nat.zero_le _) hlt)
          obtain ⟨p, hp⟩ : ∃ p, L[k]? = some p := ⟨L[k], List.getElem?_eq_getElem hlt⟩
          have HP : Hid (L[k]? = some p) := hp
          have hpm := List.mem_of_getElem? hp
          have hWp := HM.out.keys p hpm
          have h512 := hWp.1
          have HWp : Hid (WfK p.1) := hWp
          have HRa : Hid (wr.rangeAt g (k * 512) (cellsL p.1)) := HOk.out.cellsAt (fun ks hks => by
            obtain ⟨q, hq, rfl⟩ := List.mem_map.1 hks
            exact HM.out.keys q hq) (by simp) (by rw [List.getElem?_map, hp]; rfl)
          have hcl := len_cellsL hWp
          obtain ⟨u, hu, hlk⟩ := HM.out.lookAll hpm HD1.out HD3.out
          obtain ⟨au, nu, cu, rfl⟩ := hu.slice
          have HU : Hid (Ow w base (.slice au nu cu) p.2) := hu
          obtain ⟨cs, hcsl, hcc, hcow⟩ := HOm.out
          obtain ⟨i1, hi1, hy0, hy1, hy2⟩ := info_parts info_mono
          obtain ⟨wS, hwS⟩ : ∃ wS, wS = (wr.alloc (.cells Tryz.zeroCells160 160)).setRow wr.heap.size (arr p.1) := ⟨_, rfl⟩
          have hbS : Below wr.heap.size wr wS := by rw [hwS]; exact below_setRowY (below_alloc _) (Nat.le_refl _)
          have HBS : Hid (Below wr.heap.size wr wS.drew) := hbS.drew
          have HBW : Hid (Below w.heap.size w wS.drew) := below_step hbl hbS.drew
          have HowS : Hid (wS.drew.ownsRow base 37 2 u5 ((rowLY L).take k).length (cs.flatMap fun c => [c.1, c.2])) := ownsRow_later hcow hbS.drew
          have hS0 : wS.drew.rangeAt wr.heap.size 0 (cellsL p.1) ∧ wS.drew.ownsMap Tryz.prog 160 RVY b L.length D := by
            refine ⟨fun j v hj => ?_, HD1.out.kept (grown_of_below HBW.out none) (by simp)⟩
            show wS.cell? _ = _
            rw [Nat.zero_add, hwS, cell_of_row _ _ _ _ _ _ (setRow_heap _ _ _ _ _ _ (heap_alloc_new wr _)), arr_cells]
            simpa using hj
          have HCs : Hid (cs.length = ((rowLY L).take k).length) := hcsl
          have HCC : Hid (∀ (i : Nat) (c : Value × Value) (m : Mn), cs[i]? = some c → ((rowLY L).take k)[i]? = some m → Ow wr base c.1 m.1 ∧ OwI wr base c.2 m.2) := hcc
          have htk : ((rowLY L).take k).length = k := by simp [rowLY]; omega
          have hne5 : some wr.heap.size ≠ u5.ownBlock ∧ some b ≠ u5.ownBlock := by
            rcases hcow.2 with ⟨rfl, _⟩ | ⟨g5, cap5, cur5, rfl, _, hg5, _⟩
            · simp [Value.ownBlock]
            · have h1 := (Array.getElem?_eq_some_iff.1 hg5).1
              refine ⟨?_, ?_⟩
              · simp only [Value.ownBlock]; intro e; cases e; omega
              · simp only [Value.ownBlock]
                intro e
                cases e
                obtain ⟨es, clock, hbm⟩ := (HM.out.later hbl).isMap
                rw [hg5] at hbm
                cases hbm
          have HLk : Hid (∀ w' : World, w'.ownsMap Tryz.prog 160 RVY b L.length D → (Instr.lookup 109 (.map (some b)) (.agg (cellsL p.1).toArray) false).run Tryz.prog w' = .ok (.agg #[.slice au nu cu]) w') := hlk
          have HNe : Hid (some wr.heap.size ≠ u5.ownBlock ∧ some b ≠ u5.ownBlock) := hne5
          have HTk : Hid (((rowLY L).take k).length = k) := htk
          have hbase4 : base ≤ wr.heap.size := Nat.le_trans hbase hbl.size
          clear hp hpm hWp hu hcsl hcc hcow hbS hlk hne5 htk
          go_wp2_with (first
            | (refine wpList_load_mid rfl _ _ rfl g (k * 512) rfl (cellsL p.1) _ HRa.out under_arr rfl (by rw [info_arr, hcl]) ?_)
            | (refine wpList_store_row rfl _ _ _ rfl wr.heap.size (arr p.1) rfl rfl _ _ (heap_alloc_new wr _) (by rw [info_arr, arr_size, h512]) (by rw [arr_size, h512, hzs2]) (arr_one _) ?_))
          simp only [Act.put]
          rw [← hwS]
          have HWS : Hid (wS = (wr.alloc (.cells Tryz.zeroCells160 160)).setRow wr.heap.size (arr p.1)) := hwS
          clear hwS
          have hlk := HLk.out
          have hfield := field_coef (.slice au nu cu)
          have hi512 : (Tryz.prog.info? 160).map (·.size) = some (cellsL p.1).length := by rw [info_arr, hcl]
          have hu70 := under_arr
          refine wp_region_held_drew (S := fun w' => w'.rangeAt wr.heap.size 0 (cellsL p.1) ∧ w'.ownsMap Tryz.prog 160 RVY b L.length D) (by kernel_rfl) hS0 (fun _ => ?_)
          refine wpAnyH_take (i := 0) (v := u5) rfl (by kernel_rfl) (by kernel_rfl) (by kernel_rfl) (fun _ _ _ h => h) (Or.inl ⟨by rfl, fun w' _ => by go_simp⟩) hS0 ?_
          simp only [Act.put, List.setIfInBounds_toArray]
          refine wpAnyH_take (i := 1) (v := .map (some b)) rfl (by kernel_rfl) (by kernel_rfl) (by kernel_rfl) (fun _ _ _ h => h) (Or.inl ⟨by rfl, fun w' _ => by go_simp⟩) hS0 ?_
          simp only [Act.put]
          refine wpAnyH_take (i := 2) (v := .agg (cellsL p.1).toArray) rfl (by kernel_rfl) (by kernel_rfl) (by kernel_rfl) (fun _ _ _ h => h) (yieldsIf_load_mid (by rfl) _ _ rfl wr.heap.size 0 rfl (cellsL p.1) _ (fun w' h => h.1) under_arr rfl hi512) hS0 ?_
          simp only [Act.put]
          refine wpAnyH_take (i := 5) (v := .agg (cellsL p.1).toArray) rfl (by kernel_rfl) (by kernel_rfl) (by kernel_rfl) (fun _ _ _ h => h) (yieldsIf_load_mid (by rfl) _ _ rfl wr.heap.size 0 rfl (cellsL p.1) _ (fun w' h => h.1) under_arr rfl hi512) hS0 ?_
          simp only [Act.put]
          refine wpAnyH_take (i := 3) (v := .agg #[.slice au nu cu]) rfl (by kernel_rfl) (by kernel_rfl) (by kernel_rfl) (fun _ _ _ h => h) (Or.inl ⟨by rfl, fun w' h => by have hh := hlk w' h.2; go_simp⟩) hS0 ?_
          simp only [Act.put]
          refine wpAnyH_take (i := 4) (v := .slice au nu cu) rfl (by kernel_rfl) (by kernel_rfl) (by kernel_rfl) (fun _ _ _ h => h) (Or.inl ⟨by rfl, fun w' h => by go_simp⟩) hS0 ?_
          simp only [Act.put]
          refine wpAnyH_ready (rs := [6]) (by kernel_rfl) (by simp) (AllReadyH.cons rfl (fun K hK => ?_) AllReadyH.nil)
          go_simp
          refine (unpacked_any p.1 _ h512 HWp.out.2).mono ?_
          rintro e w1 ⟨v', rfl, ho1, hb1⟩
          obtain ⟨ao1, cap1, rfl, q1, q2⟩ := ho1.shape
          refine hK.out _ _ (keepA hS0 hb1) (fun hS1 => ?_)
          clear hK K
          refine wpAnyH_take (i := 7) (v := .agg #[.slice au nu cu, .slice ao1 (unX p.1).length cap1]) rfl (by kernel_rfl) (by kernel_rfl) (by kernel_rfl) (fun _ _ _ h => h) (Or.inl ⟨by rfl, fun w' _ => by go_simp⟩) hS1 ?_
          simp only [Act.put, List.setIfInBounds_toArray]
          refine wpAnyH_ready (rs := [8]) (by kernel_rfl) (by simp) (AllReadyH.cons rfl (fun K hK => ?_) AllReadyH.nil)
          go_simp
          refine hK.out _ _ (keepA hS1 (below_alloc _)) (fun hS2 => ?_)
          clear hK K
          refine wpAnyH_ready (rs := [9]) (by kernel_rfl) (by simp) (AllReadyH.cons rfl (fun K hK => ?_) AllReadyH.nil)
          refine step_append_own rfl _ _ 31 rfl base 37 i1 _ 2 48 under_monos hi1 hy0 hy1 hy2 rfl (by decide) u5 ((rowLY L).take k).length (cs.flatMap fun c => [c.1, c.2]) rfl (ownsRow_later (ownsRow_later HowS.out hb1) (below_alloc _)) ⟨w1.heap.size, 0, none⟩ 1 1 [.slice au nu cu, .slice ao1 (unX p.1).length cap1] rfl rfl ?_ ?_ (by rw [HTk.out]; unfold maxLen; omega) (by rw [HTk.out]; omega) ?_ ?_
          · intro j u hj
            rw [Addr.add_lit, Nat.zero_add, cell_of_row _ _ _ _ _ _ (heap_alloc_new _ _)]
            simpa using hj
          · intro u hu
            simp only [List.mem_cons, List.not_mem_nil, or_false] at hu
            rcases hu with rfl | rfl <;> rfl
          · exact Nat.le_trans hbase4 (Nat.le_trans HBS.out.size (Nat.le_trans hb1.size (below_alloc _).size))
          intro v2 w5 hown5 hgrow5 hloc5
          refine hK.out _ _ (keepG hS2 hgrow5 HNe.out.1 HNe.out.2) (fun hS5 => ?_)
          clear hK K
          simp only [Act.put, List.setIfInBounds_toArray]
          refine wpAnyH_take (i := 10) (v := v2) rfl (by kernel_rfl) (by kernel_rfl) (by kernel_rfl) (fun _ _ _ h => h) (Or.inl ⟨by rfl, fun w' _ => by go_simp⟩) hS5 ?_
          simp only [Act.put]
          refine wpAnyH_done (by kernel_rfl) ?_ _
          have hbW4 : Below wr.heap.size wr (w1.alloc (.cells #[.slice au nu cu, .slice ao1 (unX p.1).length cap1] 37)) := below_step (below_step HBS.out hb1) (below_alloc _)
          have hb14 := below_alloc (w := w1) (.cells #[.slice au nu cu, .slice ao1 (unX p.1).length cap1] 37)
          have hom5 := OM.snoc (m := (p.2, unX p.1)) (p := (rowLY L).take k) HCs.out (fun i c m h1 h2 => ⟨(HCC.out i c m h1 h2).1.since hbW4, (HCC.out i c m h1 h2).2.later hbW4⟩) (ownsRow_later (ownsRow_later HowS.out hb1) (below_alloc _)) ((HU.out.since (below_step hbl hbW4))) ((ho1.mono (Nat.le_trans hbase4 HBS.out.size)).later hb14) hown5 hgrow5 rfl
          have htake : (rowLY L).take k ++ [(p.2, unX p.1)] = (rowLY L).take (k + 1) := by
            rw [take_getY (x := ((p.2, unX p.1) : Mn)) (by rw [rowLY, List.getElem?_map, HP.out]; rfl)]
          rw [htake] at hom5
          have HOm5 : Hid (OM w5 base v2 ((rowLY L).take (k + 1))) := hom5
          have HOk5 : Hid (OwK w5 w.heap.size (.slice (some ⟨g, 0, none⟩) L.length cap) (L.map (·.1))) := (ownsRow_later HOk.out hbW4).kept hgrow5 (ownsRow_apart (ownsRow_later HOk.out hbW4) (ownsRow_later (ownsRow_later HowS.out hb1) (below_alloc _)) (by decide))
          have HB5 : Hid (Below w.heap.size w w5) := (below_step hbl hbW4).grown hgrow5 (below_step hbl hbW4).size HVB.out
          have HV2 : Hid (∀ j, v2.ownBlock = some j → w.heap.size ≤ j) := by
            intro j hj
            rcases hloc5 with h | h
            · exact HVB.out j (h ▸ hj)
            · rw [h] at hj
              cases hj
              exact Nat.le_trans (below_step hbl (below_step HBS.out hb1)).size (below_alloc _).size
          clear hbW4 hb14 hom5 htake hown5 hgrow5 hloc5 hS5 hS2 hS1 ho1 hb1 hlk hfield hS0
          go_wp2
          go_roundw
          case rel => exact ⟨k + 1, by omega, by go_num, HOm5.out, HOk5.out, HV2.out, HB5.out⟩
          case measure => simp [intOf]; omega
        · have hke : k = L.length := by omega
          subst hke
          have hom := HOm.out
          rw [List.take_of_length_le (by simp [rowLY])] at hom
          have HOm2 : Hid (OM wr base u5 (rowLY L)) := hom
          clear hom HOm
          go_wp2
          go_ret
          exact ⟨_, rfl, HOm2.out, hbl⟩

end Go.Proofs.YtdjmjhlbjcgoiaaGreatDoor

/- What sum and Add answer. -/
namespace Go.Proofs.YtdjmjhlbjcgoiaaGreatDoor
open Go.RowKit Go.Maps

/-- What sum answers. -/
def sumE (p q : List Mn) : Int := if (puts [] p).2 = 0 then (puts (puts [] p).1 q).2 else (puts [] p).2

def sumL (p q : List Mn) : List Mn := if sumE p q = 0 then rowLY (puts (puts [] p).1 q).1 else []

theorem len_puts {p : List Mn} : ∀ {L : LkY}, (puts L p).2 = 0 → L.length ≤ 256 → (puts L p).1.length ≤ 256 := by
  induction p with
  | nil => intro L _ h; exact h
  | cons m r ih =>
    intro L h hL
    unfold puts at h ⊢
    split at h
    · rename_i h0
      rw [if_pos h0]
      exact ih h (len_putL h0 hL)
    · rename_i h0
      exact absurd h h0

end Go.Proofs.YtdjmjhlbjcgoiaaGreatDoor
