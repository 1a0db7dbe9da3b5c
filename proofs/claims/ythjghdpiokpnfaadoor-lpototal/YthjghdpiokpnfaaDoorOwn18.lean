/- With a row of all symbols any two terms without variables are told apart. -/
import Derived.Test.YthjghdpiokpnfaaDoorOwn13
import Derived.Test.YthjghdpiokpnfaaDoorOwn14
import Derived.Test.YthjghdpiokpnfaaDoorOwn16
import Derived.Test.YthjghdpiokpnfaaDoorOwn11
import Derived.Test.YthjghdpiokpnfaaDoorOwn17
import Derived.BigRegion
namespace Go.Proofs.YthjghdpiokpnfaaDoor
open Go.RowKit Go.Maps Go.BigFrame

theorem sig_few {sig : List Sy} {t : List Int} (h : mayB sig t = true) : sig.length ≤ 128 := by
  obtain ⟨_, hs, _⟩ := may_parts h
  unfold sigE at hs
  split at hs
  · cases hs
  · omega

theorem OwI.grownL {w0 w w' : World} {v : Value} {xs : List Int} {base : Nat} (h : OwI w base v xs) (hb : w0.heap.size ≤ base) (hB : Below w0.heap.size w0 w) (hg : w.grownBy w' v.ownBlock) : Below w0.heap.size w0 w' :=
  hB.grown hg hB.size (fun _ hj => Nat.le_trans hb (own_blk h.2 hj))

theorem alike_next {a b : List Int} {k : Nat} {x y : Int} (hx : a[k]? = some x) (hy : b[k]? = some y) (h : a.take k = b.take k) : a.take (k + 1) = b.take (k + 1) ↔ x = y := by
  rw [take_get hx, take_get hy, h]
  simp

set_option maxRecDepth 100000 in
set_option maxHeartbeats 6400000 in
theorem lpoTotal_any (sv tv v0 v1 : Value) (sig : List Sy) (us a b : List Int) (w : World) (hs : Sg w sv sig) (ht : Is w tv us) (h0 : Is w v0 a) (h1 : Is w v1 b) (hT : Tabs w) (l0 : a.length * 8 ≤ 140737488351232) (l1 : b.length * 8 ≤ 140737488351232) :
    Calls Tryd.prog 8 #[sv, tv, .agg #[v0, v1]] w fun e w' => e = .returned (.bool true) ∧ Below w.heap.size w w' := by
  obtain ⟨a0, c0, rfl, ha0, hc0, _⟩ := h0.flatI
  obtain ⟨a1, c1, rfl, ha1, hc1, _⟩ := h1.flatI
  obtain ⟨at', ct, rfl, hat, hct, _⟩ := ht.flatI
  obtain ⟨so, sc, rfl, hso, hsc, _⟩ := Row.flat hs
  unfold maxLen at hsc
  have HS := hid hs
  have HU := hid ht
  have H0 := hid h0
  have H1 := hid h1
  have HT := hid hT
  have HB := hid (below_alloc (w := w) (.cells #[.slice a0 a.length c0, .slice a1 b.length c1] 25))
  have k0 : (w.alloc (.cells #[.slice a0 a.length c0, .slice a1 b.length c1] 25)).cell? ⟨w.heap.size, 0, none⟩ = some (.slice a0 a.length c0) := by rw [cell_of_row _ _ _ _ _ _ (heap_alloc_new _ _)]; rfl
  have k1 : (w.alloc (.cells #[.slice a0 a.length c0, .slice a1 b.length c1] 25)).cell? ⟨w.heap.size, 1, none⟩ = some (.slice a1 b.length c1) := by rw [cell_of_row _ _ _ _ _ _ (heap_alloc_new _ _)]; rfl
  clear hs ht h0 h1 hT
  go_enter Tryd.func8, Tryd.ntmps8
  go_wp2_with fail
  generalize w.alloc (.cells #[.slice a0 a.length c0, .slice a1 b.length c1] 25) = W1 at HB k0 k1 ⊢
  refine (shown11_any W1 (HT.out.below HB.out)).mono ?_
  rintro e w1 ⟨rfl, hb⟩
  have HBn := hid (below_step HB.out hb)
  have k0n := (Kp.of_below hb).cell _ _ k0
  have k1n := (Kp.of_below hb).cell _ _ k1
  clear hb HB k0 k1
  have HB := HBn
  have k0 := k0n
  have k1 := k1n
  clear HBn k0n k1n
  go_wp2_with fail
  refine (term11_any _ _ sig a w1 (HS.out.kp (Kp.of_below HB.out)) (H0.out.kp (Kp.of_below HB.out)) l0).mono ?_
  rintro e w2 ⟨rfl, hb⟩
  have HBn := hid (below_step HB.out hb)
  have k0n := (Kp.of_below hb).cell _ _ k0
  have k1n := (Kp.of_below hb).cell _ _ k1
  clear hb HB k0 k1
  have HB := HBn
  have k0 := k0n
  have k1 := k1n
  clear HBn k0n k1n
  go_wp2_with fail
  refine (term11_any _ _ sig b w2 (HS.out.kp (Kp.of_below HB.out)) (H1.out.kp (Kp.of_below HB.out)) l1).mono ?_
  rintro e w3 ⟨rfl, hb⟩
  have HBn := hid (below_step HB.out hb)
  have k0n := (Kp.of_below hb).cell _ _ k0
  have k1n := (Kp.of_below hb).cell _ _ k1
  clear hb HB k0 k1
  have HB := HBn
  have k0 := k0n
  have k1 := k1n
  clear HBn k0n k1n
  cases hma : mayB sig a with
  | false =>
    go_wp2
    go_ret
    exact ⟨rfl, HB.out⟩
  | true =>
    cases hmb : mayB sig b with
    | false =>
      go_wp2
      go_ret
      exact ⟨rfl, HB.out⟩
    | true =>
      have HMa := hid hma
      have HMb := hid hmb
      have la : a.length ≤ 512 := (may_parts hma).1
      have lb : b.length ≤ 512 := (may_parts hmb).1
      have hsl : sig.length ≤ 128 := sig_few hma
      clear hma hmb
      go_wp2_with fail
      refine (refVars_any _ a w3 (H0.out.kp (Kp.of_below HB.out)) (by omega)).mono ?_
      rintro e w4 ⟨vv, rfl, ho, hb⟩
      obtain ⟨av, cv, rfl, _, _⟩ := ho.shape
      clear ho
      have HBn := hid (below_step HB.out hb)
      have k0n := (Kp.of_below hb).cell _ _ k0
      have k1n := (Kp.of_below hb).cell _ _ k1
      clear hb HB k0 k1
      have HB := HBn
      have k0 := k0n
      have k1 := k1n
      clear HBn k0n k1n
      by_cases hva : (varsL a).length = 0
      · rw [hva]
        go_wp2_with fail
        refine (refVars_any _ b w4 (H1.out.kp (Kp.of_below HB.out)) (by omega)).mono ?_
        rintro e w5 ⟨vu, rfl, ho, hb⟩
        obtain ⟨au, cu, rfl, _, _⟩ := ho.shape
        clear ho
        have HBn := hid (below_step HB.out hb)
        have k0n := (Kp.of_below hb).cell _ _ k0
        have k1n := (Kp.of_below hb).cell _ _ k1
        clear hb HB k0 k1
        have HB := HBn
        have k0 := k0n
        have k1 := k1n
        clear HBn k0n k1n
        by_cases hvb : (varsL b).length = 0
        · rw [hvb]
          have HVa := hid (List.eq_nil_of_length_eq_zero hva)
          have HVb := hid (List.eq_nil_of_length_eq_zero hvb)
          have hs1 : 1 ≤ sig.length := sig_some HMa.out HVa.out
          have HTo := hid (fun M hM h => gr_total (sig := sig) (M := M) hM HMa.out HMb.out HVa.out HVb.out h)
          clear hva hvb
          have K0 := hid k0
          have K1 := hid k1
          have HE := hid (show OwI (w5.alloc (.cells #[] 3)) w5.heap.size (.slice (some ⟨w5.heap.size, 0, none⟩) 0 0) [] from ⟨fun k x hk => (by simp at hk), empty_row 3 (Nat.le_refl _)⟩)
          have HBe := hid (below_alloc (w := w5) (.cells #[] 3))
          clear k0 k1
          go_wp2
          generalize w5.alloc (.cells #[] 3) = W5 at HE HBe ⊢
          go_loopw [10, 11] (fun rv iv wr => ∃ k : Nat, k ≤ sig.length ∧ iv = .int .i64 k ∧ OwI wr w5.heap.size rv (rowN k) ∧ Below w5.heap.size w5 wr) (fun _ iv _ => sig.length - (intOf iv).toNat)
          case atStart => exact ⟨0, Nat.zero_le _, rfl, HE.out, HBe.out⟩
          case round =>
            clear HE HBe
            obtain ⟨k, hk, rfl, hro, hbl⟩ := hrel
            obtain ⟨ar, cr, hrv, hcr1, hcr2⟩ := hro.shape
            have hrl : (rowN k).length = k := by simp [rowN]
            rw [hrl] at hrv hcr1
            subst hrv
            clear hrl
            unfold maxLen at hcr2
            have HR := hid hro
            have HBr := hid hbl
            clear hro hbl
            by_cases hkl : k < sig.length
            · have hba := below_alloc (w := wr) (.cells #[.int .i64 (k : Int)] 3)
              obtain ⟨rv', X, hr, hO, hg⟩ := join_ints 24 (u := .slice (some ⟨wr.heap.size, 0, none⟩) 1 1) (es := [(k : Int)]) (HR.out.later hba) (one_row (by rw [cell_of_row _ _ _ _ _ _ (heap_alloc_new _ _)]; rfl) (by omega) (by omega) (Nat.le_refl _) (by simp [maxLen])) (Nat.le_trans HBr.out.size hba.size) (by simp [rowN]; omega)
              rw [← rowN_succ] at hO
              have hbx : Below w5.heap.size w5 X := (HR.out.later hba).grownL (Nat.le_refl _) (below_step HBr.out hba) hg
              have HRn := hid hr
              have HO := hid hO
              have HBx := hid hbx
              clear hr hO hg hbx hba
              go_wp2_with (first
                | (at_builtin; refine wpList_append_run rfl _ _ _ rfl _ _ rfl rfl HRn.out ?_))
              go_roundw
              case rel => exact ⟨k + 1, by omega, by go_num, HO.out, HBx.out⟩
              case measure => simp [intOf]; omega
            · obtain rfl : k = sig.length := by omega
              obtain ⟨n, hn⟩ : ∃ n, n = sig.length := ⟨_, rfl⟩
              have HN := hid hn
              have hnr : n ≤ cr := by omega
              have HR2 := HR
              rw [← hn] at HR2 ⊢
              clear HR hk hkl
              have hn1 : 1 ≤ n := by omega
              have hn8 : n ≤ 128 := by omega
              clear hn hcr1
              obtain ⟨gr, hgr⟩ : ∃ gr, ar = some ⟨gr, 0, none⟩ := by obtain ⟨g9, c9, h9⟩ := own_form HR2.out.2 (by simp [rowN]; omega); simp only [Value.slice.injEq] at h9; exact ⟨g9, h9.1⟩
              subst hgr
              have hgb : w5.heap.size ≤ gr := own_ge HR2.out.2
              go_wp2
              go_loopw [12] (fun iv ws => ∃ (i : Nat) (M : List Int), i ≤ us.length ∧ iv = .int .i64 i ∧ OwI ws w5.heap.size (.slice (some ⟨gr, 0, none⟩) n cr) M ∧ M.Perm (rowN n) ∧ Below w5.heap.size w5 ws) (fun iv _ => us.length - (intOf iv).toNat)
              case atStart => exact ⟨0, rowN n, Nat.zero_le _, rfl, HR2.out, List.Perm.refl _, HBr.out⟩
              case round =>
                clear HR2 HBr
                obtain ⟨i, M, hi, rfl, hro, hpm, hbl⟩ := hrel
                have HR2 := hid hro
                have HPm := hid hpm
                have HBr := hid hbl
                have hml : M.length = n := by rw [hpm.length_eq]; simp [rowN]
                have HMl := hid hml
                clear hro hpm hml
                by_cases hil : i < us.length
                · obtain ⟨gt, ot, x, rfl, hxm, hxc, hx1, hx2⟩ := (HU.out.kp (Kp.of_below (below_step HB.out hbl))).at hil
                  clear hxm hbl
                  obtain ⟨j, hj, hjl⟩ := rem_posL (t := (i : Int)) (n := n) (by omega)
                  have hjw : IntKind.i64.wrap (j : Int) = (j : Int) := IntWalk.i64_in _ ⟨by omega, by omega⟩
                  have hjt : (i : Int).tmod (n : Int) = (j : Int) := by rw [Int.tmod_eq_emod_of_nonneg (by omega)]; exact hj
                  have hnz : ¬ (n : Int) = 0 := by omega
                  have hnz2 : ¬ n = 0 := by omega
                  by_cases hx0 : x < 0
                  · skip
                    obtain ⟨k, hk, hkl⟩ := rem_negL (t := x) (n := n) (by omega) hx0
                    have hwa : IntKind.i64.wrap (x + 1) = x + 1 := IntWalk.i64_in _ ⟨by omega, by omega⟩
                    have hwb : IntKind.i64.wrap (-(x + 1)) = -(x + 1) := IntWalk.i64_in _ ⟨by omega, by omega⟩
                    have hwk : IntKind.i64.wrap (k : Int) = (k : Int) := IntWalk.i64_in _ ⟨by omega, by omega⟩
                    have hjM : j < M.length := by rw [HMl.out]; exact hjl
                    have hkM : k < M.length := by rw [HMl.out]; exact hkl
                    obtain ⟨y, hy⟩ : ∃ y, M[j]? = some y := ⟨_, List.getElem?_eq_getElem hjM⟩
                    obtain ⟨z, hz⟩ : ∃ z, M[k]? = some z := ⟨_, List.getElem?_eq_getElem hkM⟩
                    obtain ⟨cy, fy⟩ := HR2.out.at hy
                    obtain ⟨cz, fz⟩ := HR2.out.at hz
                    have by0 := HR2.out.1 j y hy
                    have bz0 := HR2.out.1 k z hz
                    have HPs : Hid (((M.set j z).set k y).Perm (rowN n)) := by
                      have h9 := List.set_set_perm hjM hkM
                      rw [(List.getElem?_eq_some_iff.1 hy).2, (List.getElem?_eq_some_iff.1 hz).2] at h9
                      exact h9.trans HPm.out
                    obtain ⟨o1, bl1⟩ := HR2.out.put HBr.out hgb HMl.out.symm (k := j) (z := z) ⟨by omega, by omega⟩ rfl
                    obtain ⟨o2, bl2⟩ := o1.put bl1 hgb (by rw [List.length_set]; exact HMl.out.symm) (k := k) (z := y) ⟨by omega, by omega⟩ rfl
                    have hz2 : (M.set j z)[k]? = some z := by
                      rw [List.getElem?_set]
                      split
                      · rfl
                      · exact hz
                    obtain ⟨cz2, fz2⟩ := o1.at hz2
                    clear hz2
                    have HO2 := hid (o2.later (drawn_below1 _))
                    have HB2 := hid (below_step bl2 (drawn_below1 _))
                    clear o1 bl1 o2 bl2 hy hz hjM hkM
                    have hjc : j < cr := by omega
                    have hkc : k < cr := by omega
                    go_wp2
                    go_region
                    go_wp2
                    go_roundw
                    case rel => exact ⟨i + 1, (M.set j z).set k y, by omega, by go_num, HO2.out, HPs.out, HB2.out⟩
                    case measure => simp [intOf]; omega
                  · skip
                    obtain ⟨k, hk, hkl⟩ := rem_posL (t := x) (n := n) (by omega)
                    have hx0b : 0 ≤ x := by omega
                    have hkt : x.tmod (n : Int) = (k : Int) := by rw [Int.tmod_eq_emod_of_nonneg hx0b]; exact hk
                    have hwk : IntKind.i64.wrap (k : Int) = (k : Int) := IntWalk.i64_in _ ⟨by omega, by omega⟩
                    have hjM : j < M.length := by rw [HMl.out]; exact hjl
                    have hkM : k < M.length := by rw [HMl.out]; exact hkl
                    obtain ⟨y, hy⟩ : ∃ y, M[j]? = some y := ⟨_, List.getElem?_eq_getElem hjM⟩
                    obtain ⟨z, hz⟩ : ∃ z, M[k]? = some z := ⟨_, List.getElem?_eq_getElem hkM⟩
                    obtain ⟨cy, fy⟩ := HR2.out.at hy
                    obtain ⟨cz, fz⟩ := HR2.out.at hz
                    have by0 := HR2.out.1 j y hy
                    have bz0 := HR2.out.1 k z hz
                    have HPs : Hid (((M.set j z).set k y).Perm (rowN n)) := by
                      have h9 := List.set_set_perm hjM hkM
                      rw [(List.getElem?_eq_some_iff.1 hy).2, (List.getElem?_eq_some_iff.1 hz).2] at h9
                      exact h9.trans HPm.out
                    obtain ⟨o1, bl1⟩ := HR2.out.put HBr.out hgb HMl.out.symm (k := j) (z := z) ⟨by omega, by omega⟩ rfl
                    obtain ⟨o2, bl2⟩ := o1.put bl1 hgb (by rw [List.length_set]; exact HMl.out.symm) (k := k) (z := y) ⟨by omega, by omega⟩ rfl
                    have hz2 : (M.set j z)[k]? = some z := by
                      rw [List.getElem?_set]
                      split
                      · rfl
                      · exact hz
                    obtain ⟨cz2, fz2⟩ := o1.at hz2
                    clear hz2
                    have HO2 := hid (o2.later (drawn_below1 _))
                    have HB2 := hid (below_step bl2 (drawn_below1 _))
                    clear o1 bl1 o2 bl2 hy hz hjM hkM
                    have hjc : j < cr := by omega
                    have hkc : k < cr := by omega
                    go_wp2
                    go_region
                    go_wp2
                    go_roundw
                    case rel => exact ⟨i + 1, (M.set j z).set k y, by omega, by go_num, HO2.out, HPs.out, HB2.out⟩
                    case measure => simp [intOf]; omega
                · clear hbl
                  obtain ⟨W7, rfl⟩ : ∃ W7, W7 = wr := ⟨_, rfl⟩
                  have HQe := hid (empty_prs (w := W7) (base := W7.heap.size) (Nat.le_refl _))
                  have HBq := hid (below_alloc (w := W7) (.cells #[] 54))
                  go_wp2
                  generalize W7.alloc (.cells #[] 54) = W8 at HQe HBq ⊢
                  go_loopw [15, 16] (fun qv iv wx => ∃ m : Nat, m + 1 ≤ n ∧ iv = .int .i64 m ∧ OwQ wx W7.heap.size qv ((chain M).take m) ∧ Below W7.heap.size W7 wx) (fun _ iv _ => n - (intOf iv).toNat)
                  case atStart => exact ⟨0, by omega, rfl, by rw [List.take_zero]; exact HQe.out, HBq.out⟩
                  case round =>
                    clear HQe HBq
                    obtain ⟨m, hmn, rfl, hqo, hbl⟩ := hrel
                    obtain ⟨aq, cq, hqv, hq1, hq2, _⟩ := Row.flat hqo.prs
                    subst hqv
                    unfold maxLen at hq2
                    generalize ((chain M).take m).length = lq at hqo hq1 ⊢
                    have HQ := hid hqo
                    have HBq := hid hbl
                    have hwm : IntKind.i64.wrap ((m : Int) + 1) = (m : Int) + 1 := IntWalk.i64_in _ ⟨by omega, by omega⟩
                    clear hqo hbl
                    by_cases hlt : m + 1 < n
                    · have hd : decide ((m : Int) + 1 < (n : Int)) = true := decide_eq_true (by omega)
                      have hdi : (m : Int) + 1 < (n : Int) := by omega
                      have hmn2 : m < n := by omega
                      have hmn3 : ¬ (m : Int) + 1 < 0 := by omega
                      have hmn4 : (0 : Int) ≤ (m : Int) + 1 := by omega
                      obtain ⟨x, hx⟩ : ∃ x, M[m]? = some x := ⟨_, List.getElem?_eq_getElem (by rw [HMl.out]; omega)⟩
                      obtain ⟨y, hy⟩ : ∃ y, M[m + 1]? = some y := ⟨_, List.getElem?_eq_getElem (by rw [HMl.out]; omega)⟩
                      have HRq := hid (HR2.out.later HBq.out)
                      obtain ⟨cx, _⟩ := HRq.out.at hx
                      have CX7 := hid (HR2.out.at hx).1
                      obtain ⟨cy, _⟩ := HRq.out.at hy
                      have bx := HR2.out.1 m x hx
                      have bz := HR2.out.1 (m + 1) y hy
                      have HCh := hid (chain_at hx hy)
                      have hmc : m < cr := by omega
                      have hmc2 : m + 1 < cr := by omega
                      clear hx hy
                      have hgl : gr < W7.heap.size := World.block_lt_of_cell? _ _ CX7.out
                      have hgq : gr < wr.heap.size := Nat.lt_of_lt_of_le hgl HBq.out.size
                      go_upto_region 26 with fail
                      have hS : (fun w' : World => w'.cell? ⟨gr, m, none⟩ = some (.int .i64 x) ∧ w'.cell? ⟨gr, m + 1, none⟩ = some (.int .i64 y)) wr.drew := ⟨cx, cy⟩
                      refine wp_region_held_drew (S := fun w' => w'.cell? ⟨gr, m, none⟩ = some (.int .i64 x) ∧ w'.cell? ⟨gr, m + 1, none⟩ = some (.int .i64 y)) (by kernel_rfl) hS (fun _ => ?_)
                      obtain ⟨W0, hW0⟩ : ∃ X, X = wr.drew := ⟨_, rfl⟩
                      have bW0 : Below wr.heap.size wr W0 := by rw [hW0]; exact drawn_below1 wr
                      rw [← hW0] at hS ⊢
                      clear hW0
                      refine wpAnyH_take (i := 0) (v := .slice aq lq cq) rfl (by kernel_rfl) (by kernel_rfl) (by kernel_rfl) (fun _ _ _ h => h) (Or.inl ⟨by rfl, fun w' h => by go_simp⟩) hS ?_
                      simp only [Act.put, List.setIfInBounds_toArray]
                      refine wpAnyH_take (i := 1) (v := .slice (some ⟨gr, 0, none⟩) n cr) rfl (by kernel_rfl) (by kernel_rfl) (by kernel_rfl) (fun _ _ _ h => h) (Or.inl ⟨by rfl, fun w' h => by go_simp⟩) hS ?_
                      simp only [Act.put]
                      refine wpAnyH_take (i := 2) (v := .int .i64 (m : Int)) rfl (by kernel_rfl) (by kernel_rfl) (by kernel_rfl) (fun _ _ _ h => h) (Or.inl ⟨by rfl, fun w' h => by go_simp⟩) hS ?_
                      simp only [Act.put]
                      refine wpAnyH_take (i := 3) (v := .pointer (some ⟨gr, m, none⟩)) rfl (by kernel_rfl) (by kernel_rfl) (by kernel_rfl) (fun _ _ _ h => h) (Or.inl ⟨by rfl, fun w' h => by go_simp⟩) hS ?_
                      simp only [Act.put]
                      refine wpAnyH_take (i := 4) (v := .int .i64 x) rfl (by kernel_rfl) (by kernel_rfl) (by kernel_rfl) (fun _ _ _ h => h) (Or.inl ⟨by rfl, fun w' h => by have hh := h.1; go_simp⟩) hS ?_
                      simp only [Act.put]
                      refine wpAnyH_take (i := 5) (v := .slice (some ⟨gr, 0, none⟩) n cr) rfl (by kernel_rfl) (by kernel_rfl) (by kernel_rfl) (fun _ _ _ h => h) (Or.inl ⟨by rfl, fun w' h => by go_simp⟩) hS ?_
                      simp only [Act.put]
                      refine wpAnyH_take (i := 6) (v := .int .i64 (m : Int)) rfl (by kernel_rfl) (by kernel_rfl) (by kernel_rfl) (fun _ _ _ h => h) (Or.inl ⟨by rfl, fun w' h => by go_simp⟩) hS ?_
                      simp only [Act.put]
                      refine wpAnyH_take (i := 7) (v := .int .i64 ((m : Int) + 1)) rfl (by kernel_rfl) (by kernel_rfl) (by kernel_rfl) (fun _ _ _ h => h) (Or.inl ⟨by rfl, fun w' h => by go_simp⟩) hS ?_
                      simp only [Act.put]
                      refine wpAnyH_take (i := 8) (v := .pointer (some ⟨gr, m + 1, none⟩)) rfl (by kernel_rfl) (by kernel_rfl) (by kernel_rfl) (fun _ _ _ h => h) (Or.inl ⟨by rfl, fun w' h => by go_simp⟩) hS ?_
                      simp only [Act.put]
                      refine wpAnyH_take (i := 9) (v := .int .i64 y) rfl (by kernel_rfl) (by kernel_rfl) (by kernel_rfl) (fun _ _ _ h => h) (Or.inl ⟨by rfl, fun w' h => by have hh := h.2; go_simp⟩) hS ?_
                      simp only [Act.put]
                      refine wpAnyH_take (i := 10) (v := .agg #[.int .i64 x, .int .i64 y]) rfl (by kernel_rfl) (by kernel_rfl) (by kernel_rfl) (fun _ _ _ h => h) (Or.inl ⟨by rfl, fun w' h => by go_simp⟩) hS ?_
                      simp only [Act.put]
                      have hbW := below_alloc (w := W0) (.cells #[.int .i64 x, .int .i64 y] 54)
                      have hqW := (HQ.out.later bW0).later hbW
                      have hsW : W7.heap.size ≤ (W0.alloc (.cells #[.int .i64 x, .int .i64 y] 54)).heap.size := Nat.le_trans HBq.out.size (Nat.le_trans bW0.size hbW.size)
                      obtain ⟨v3, X3, hr3, hO3, hg3, _⟩ := join_prs 23 hqW (prs_one W0 x y bx bz) hsW (by rw [List.length_take, chain_len, HMl.out]; simp; omega)
                      have hb3 : Below W7.heap.size W7 X3 := hqW.grown (below_step (below_step HBq.out bW0) hbW) hg3
                      rw [← take_get HCh.out] at hO3
                      have HR3 := hid hr3
                      have HO3 := hid hO3
                      have HB3 := hid hb3
                      have hS1 : (W0.alloc (.cells #[.int .i64 x, .int .i64 y] 54)).cell? ⟨gr, m, none⟩ = some (.int .i64 x) ∧ (W0.alloc (.cells #[.int .i64 x, .int .i64 y] 54)).cell? ⟨gr, m + 1, none⟩ = some (.int .i64 y) := ⟨(Kp.of_below hbW).cell _ _ hS.1, (Kp.of_below hbW).cell _ _ hS.2⟩
                      have hblk := hg3.block gr (Nat.lt_of_lt_of_le hgq (Nat.le_trans bW0.size hbW.size)) (fun e => by have := own_blk hqW.2 e.symm; omega)
                      have hS3 : X3.cell? ⟨gr, m, none⟩ = some (.int .i64 x) ∧ X3.cell? ⟨gr, m + 1, none⟩ = some (.int .i64 y) := ⟨(World.cell?_of_block (a := ⟨gr, m, none⟩) hblk).trans hS1.1, (World.cell?_of_block (a := ⟨gr, m + 1, none⟩) hblk).trans hS1.2⟩
                      clear hr3 hO3 hg3 hb3 hqW hsW hbW hblk
                      refine wpAnyH_ready (rs := [11]) (by kernel_rfl) (by simp) (AllReadyH.cons rfl (fun K hK => ?_) (AllReadyH.nil))
                      go_simp
                      refine hK.out _ _ hS1 (fun _ => ?_)
                      clear hK K
                      try simp only [Act.put, List.setIfInBounds_toArray]
                      refine wpAnyH_ready (rs := [12]) (by kernel_rfl) (by simp) (AllReadyH.cons rfl (fun K hK => ?_) (AllReadyH.nil))
                      refine step_append_runL rfl _ _ _ rfl _ _ rfl rfl HR3.out ?_
                      refine hK.out _ _ hS3 (fun _ => ?_)
                      clear hK K
                      try simp only [Act.put]
                      refine wpAnyH_take (i := 13) (v := v3) rfl (by kernel_rfl) (by kernel_rfl) (by kernel_rfl) (fun _ _ _ h => h) (Or.inl ⟨by rfl, fun w' h => by go_simp⟩) hS3 ?_
                      simp only [Act.put]
                      refine wpAnyH_done (by kernel_rfl) ?_ _
                      try simp only [List.getElem_toArray, List.getElem_cons_succ, List.getElem_cons_zero, List.setIfInBounds_toArray, List.set_cons_succ, List.set_cons_zero]
                      clear hS hS1 hS3 bW0 HR3
                      go_wp2
                      go_roundw
                      case rel => exact ⟨m + 1, by omega, by go_num, HO3.out, HB3.out⟩
                      case measure => simp [intOf]; omega
                    · have hd : decide ((m : Int) + 1 < (n : Int)) = false := decide_eq_false (by omega)
                      have hdi : ¬ (m : Int) + 1 < (n : Int) := by omega
                      have hd2 : ¬ m + 1 < n := hlt
                      have hme : (chain M).take m = chain M := List.take_of_length_le (by rw [chain_len, HMl.out]; omega)
                      rw [hme] at HQ
                      have HQp := hid HQ.out.prs
                      have HCl := hid (chain_close HPm.out hn8)
                      have HBc := hid (below_step HB.out (below_step HBr.out HBq.out))
                      have HK7 := hid ((Kp.of_below (below_step HBr.out HBq.out)))
                      clear hme HQ HR2
                      have k0 := HK7.out.cell _ _ K0.out
                      have k1 := HK7.out.cell _ _ K1.out
                      clear HK7 K0 K1 HB HBr HBq
                      have HB := HBc
                      clear HBc
                      go_wp2_with fail
                      refine (close_any (n : Int) _ (chain M) wr HQp.out).mono ?_
                      intro e wc hc
                      obtain ⟨hb, gp, rfl, hpc⟩ := hc.ok HCl.out.1
                      have HPc := hid hpc
                      clear hc hpc HQp
                      have HBn := hid (below_step HB.out hb)
                      have k0n := (Kp.of_below hb).cell _ _ k0
                      have k1n := (Kp.of_below hb).cell _ _ k1
                      clear hb HB k0 k1
                      have HB := HBn
                      have k0 := k0n
                      have k1 := k1n
                      clear HBn k0n k1n
                      have HC := hid HCl.out.2
                      have HS2 := HS
                      rw [← HN.out] at HS2
                      go_wp2_with fail
                      refine (lpoGreater_any _ _ _ _ sig (chain M) a b wc (HS2.out.kp (Kp.of_below HB.out)) HPc.out (H0.out.kp (Kp.of_below HB.out)) (H1.out.kp (Kp.of_below HB.out)) (HT.out.below HB.out) HC.out).mono ?_
                      rintro e wd ⟨rfl, hb⟩
                      have HBn := hid (below_step HB.out hb)
                      have k0n := (Kp.of_below hb).cell _ _ k0
                      have k1n := (Kp.of_below hb).cell _ _ k1
                      have HPcn := hid (HPc.out.later hb)
                      clear hb HB k0 k1 HPc
                      have HB := HBn
                      have k0 := k0n
                      have k1 := k1n
                      have HPc := HPcn
                      clear HBn k0n k1n HPcn
                      go_wp2_with fail
                      refine (lpoGreater_any _ _ _ _ sig (chain M) b a wd (HS2.out.kp (Kp.of_below HB.out)) HPc.out (H1.out.kp (Kp.of_below HB.out)) (H0.out.kp (Kp.of_below HB.out)) (HT.out.below HB.out) HC.out).mono ?_
                      rintro e we ⟨rfl, hb⟩
                      have HBn := hid (below_step HB.out hb)
                      have k0n := (Kp.of_below hb).cell _ _ k0
                      have k1n := (Kp.of_below hb).cell _ _ k1
                      have HPcn := hid (HPc.out.later hb)
                      clear hb HB k0 k1 HPc
                      have HB := HBn
                      have k0 := k0n
                      have k1 := k1n
                      have HPc := HPcn
                      clear HBn k0n k1n HPcn
                      by_cases hab : a = b
                      · subst hab
                        rw [gr_own HC.out a]
                        go_wp2
                        go_loopw [21, 22] (fun bv iv wx => ∃ k : Nat, k ≤ a.length ∧ iv = .int .i64 k ∧ bv = .bool true ∧ Below we.heap.size we wx) (fun _ iv _ => a.length - (intOf iv).toNat)
                        case atStart => exact ⟨0, Nat.zero_le _, rfl, rfl, Below.refl _ _⟩
                        case round =>
                          obtain ⟨k, hk, rfl, rfl, hb⟩ := hrel
                          have HBl := hid hb
                          have HBn := hid (below_step HB.out hb)
                          have k0n := (Kp.of_below hb).cell _ _ k0
                          have k1n := (Kp.of_below hb).cell _ _ k1
                          clear hb HB k0 k1
                          have HB := HBn
                          have k0 := k0n
                          have k1 := k1n
                          clear HBn k0n k1n
                          by_cases hkl : k < a.length
                          · obtain ⟨g0, f0, x, rfl, hx0, hx1, _, _⟩ := (H0.out.kp (Kp.of_below HB.out)).at hkl
                            obtain ⟨g1, f1, y, rfl, hy0, hy1, _, _⟩ := (H1.out.kp (Kp.of_below HB.out)).at hkl
                            rw [hx0] at hy0
                            cases hy0
                            clear hx0
                            go_wp2
                            go_region
                            go_wp2
                            go_roundw
                            case rel => exact ⟨k + 1, by omega, by go_num, by simp, HBl.out.drew⟩
                            case measure => simp [intOf]; omega
                          · skip
                            go_wp2
                            go_ret
                            exact ⟨rfl, HB.out⟩
                      · have hor : (grB sig (chain M) a b = true ∧ grB sig (chain M) b a = false) ∨ (grB sig (chain M) a b = false ∧ grB sig (chain M) b a = true) := by
                          rcases HTo.out M (by rw [← HN.out]; exact HPm.out) hab with h | h
                          · exact .inl ⟨h, gr_not2 HC.out h⟩
                          · exact .inr ⟨gr_not2 HC.out h, h⟩
                        have HAb := hid hab
                        clear hab
                        rcases hor with ⟨z1, z2⟩ | ⟨z1, z2⟩
                        · rw [z1, z2]
                          clear z1 z2
                          by_cases hll : a.length = b.length
                          · have hlt2 : ((a.length : Int) == (b.length : Int)) = true := beq_iff_eq.2 (by omega)
                            have hlt3 : (a.length == b.length) = true := beq_iff_eq.2 hll
                            go_wp2
                            go_loopw [21, 22] (fun bv iv wx => ∃ (k : Nat) (B : Bool), k ≤ a.length ∧ iv = .int .i64 k ∧ bv = .bool B ∧ (B = true → a.length = b.length ∧ a.take k = b.take k) ∧ Below we.heap.size we wx) (fun _ iv _ => a.length - (intOf iv).toNat)
                            case atStart => exact ⟨0, true, Nat.zero_le _, rfl, rfl, fun _ => ⟨hll, rfl⟩, Below.refl _ _⟩
                            case round =>
                              obtain ⟨k, B, hk, rfl, rfl, hB, hb⟩ := hrel
                              have HBl := hid hb
                              have HBi := hid hB
                              clear hB
                              have HBn := hid (below_step HB.out hb)
                              have k0n := (Kp.of_below hb).cell _ _ k0
                              have k1n := (Kp.of_below hb).cell _ _ k1
                              clear hb HB k0 k1
                              have HB := HBn
                              have k0 := k0n
                              have k1 := k1n
                              clear HBn k0n k1n
                              by_cases hkl : k < a.length
                              · cases B with
                                | false =>
                                  go_wp2
                                  go_ret
                                  exact ⟨rfl, HB.out⟩
                                | true =>
                                  obtain ⟨hlb, htk⟩ := HBi.out rfl
                                  have hkb : k < b.length := by omega
                                  obtain ⟨g0, f0, x, rfl, hx0, hx1, _, _⟩ := (H0.out.kp (Kp.of_below HB.out)).at hkl
                                  obtain ⟨g1, f1, y, rfl, hy0, hy1, _, _⟩ := (H1.out.kp (Kp.of_below HB.out)).at hkb
                                  have HNx := hid (alike_next hx0 hy0 htk)
                                  have HLb := hid hlb
                                  clear hx0 hy0 htk hlb
                                  by_cases hxy : x = y
                                  · have HTk := hid (HNx.out.2 hxy)
                                    subst hxy
                                    go_wp2
                                    go_region
                                    go_wp2
                                    go_roundw
                                    case rel => exact ⟨k + 1, true, by omega, by go_num, by simp, fun _ => ⟨HLb.out, HTk.out⟩, HBl.out.drew⟩
                                    case measure => simp [intOf]; omega
                                  · go_wp2
                                    go_region
                                    go_wp2
                                    go_roundw
                                    case rel => exact ⟨k + 1, false, by omega, by go_num, by simp [hxy], (fun h => by cases h), HBl.out.drew⟩
                                    case measure => simp [intOf]; omega
                              · cases B with
                                | false =>
                                  go_wp2
                                  go_ret
                                  exact ⟨rfl, HB.out⟩
                                | true =>
                                  obtain ⟨hlb, htk⟩ := HBi.out rfl
                                  rw [List.take_of_length_le (by omega), List.take_of_length_le (by omega)] at htk
                                  exact absurd htk HAb.out
                          · have hlt2 : ((a.length : Int) == (b.length : Int)) = false := beq_eq_false_iff_ne.2 (by omega)
                            have hlt3 : (a.length == b.length) = false := beq_eq_false_iff_ne.2 hll
                            go_wp2
                            go_loopw [21, 22] (fun bv iv wx => ∃ (k : Nat) (B : Bool), k ≤ a.length ∧ iv = .int .i64 k ∧ bv = .bool B ∧ (B = true → a.length = b.length ∧ a.take k = b.take k) ∧ Below we.heap.size we wx) (fun _ iv _ => a.length - (intOf iv).toNat)
                            case atStart => exact ⟨0, false, Nat.zero_le _, rfl, rfl, (fun h => by cases h), Below.refl _ _⟩
                            case round =>
                              obtain ⟨k, B, hk, rfl, rfl, hB, hb⟩ := hrel
                              have HBl := hid hb
                              have HBi := hid hB
                              clear hB
                              have HBn := hid (below_step HB.out hb)
                              have k0n := (Kp.of_below hb).cell _ _ k0
                              have k1n := (Kp.of_below hb).cell _ _ k1
                              clear hb HB k0 k1
                              have HB := HBn
                              have k0 := k0n
                              have k1 := k1n
                              clear HBn k0n k1n
                              by_cases hkl : k < a.length
                              · cases B with
                                | false =>
                                  go_wp2
                                  go_ret
                                  exact ⟨rfl, HB.out⟩
                                | true =>
                                  obtain ⟨hlb, htk⟩ := HBi.out rfl
                                  have hkb : k < b.length := by omega
                                  obtain ⟨g0, f0, x, rfl, hx0, hx1, _, _⟩ := (H0.out.kp (Kp.of_below HB.out)).at hkl
                                  obtain ⟨g1, f1, y, rfl, hy0, hy1, _, _⟩ := (H1.out.kp (Kp.of_below HB.out)).at hkb
                                  have HNx := hid (alike_next hx0 hy0 htk)
                                  have HLb := hid hlb
                                  clear hx0 hy0 htk hlb
                                  by_cases hxy : x = y
                                  · have HTk := hid (HNx.out.2 hxy)
                                    subst hxy
                                    go_wp2
                                    go_region
                                    go_wp2
                                    go_roundw
                                    case rel => exact ⟨k + 1, true, by omega, by go_num, by simp, fun _ => ⟨HLb.out, HTk.out⟩, HBl.out.drew⟩
                                    case measure => simp [intOf]; omega
                                  · go_wp2
                                    go_region
                                    go_wp2
                                    go_roundw
                                    case rel => exact ⟨k + 1, false, by omega, by go_num, by simp [hxy], (fun h => by cases h), HBl.out.drew⟩
                                    case measure => simp [intOf]; omega
                              · cases B with
                                | false =>
                                  go_wp2
                                  go_ret
                                  exact ⟨rfl, HB.out⟩
                                | true =>
                                  obtain ⟨hlb, htk⟩ := HBi.out rfl
                                  rw [List.take_of_length_le (by omega), List.take_of_length_le (by omega)] at htk
                                  exact absurd htk HAb.out
                        · rw [z1, z2]
                          clear z1 z2
                          by_cases hll : a.length = b.length
                          · have hlt2 : ((a.length : Int) == (b.length : Int)) = true := beq_iff_eq.2 (by omega)
                            have hlt3 : (a.length == b.length) = true := beq_iff_eq.2 hll
                            go_wp2
                            go_loopw [21, 22] (fun bv iv wx => ∃ (k : Nat) (B : Bool), k ≤ a.length ∧ iv = .int .i64 k ∧ bv = .bool B ∧ (B = true → a.length = b.length ∧ a.take k = b.take k) ∧ Below we.heap.size we wx) (fun _ iv _ => a.length - (intOf iv).toNat)
                            case atStart => exact ⟨0, true, Nat.zero_le _, rfl, rfl, fun _ => ⟨hll, rfl⟩, Below.refl _ _⟩
                            case round =>
                              obtain ⟨k, B, hk, rfl, rfl, hB, hb⟩ := hrel
                              have HBl := hid hb
                              have HBi := hid hB
                              clear hB
                              have HBn := hid (below_step HB.out hb)
                              have k0n := (Kp.of_below hb).cell _ _ k0
                              have k1n := (Kp.of_below hb).cell _ _ k1
                              clear hb HB k0 k1
                              have HB := HBn
                              have k0 := k0n
                              have k1 := k1n
                              clear HBn k0n k1n
                              by_cases hkl : k < a.length
                              · cases B with
                                | false =>
                                  go_wp2
                                  go_ret
                                  exact ⟨rfl, HB.out⟩
                                | true =>
                                  obtain ⟨hlb, htk⟩ := HBi.out rfl
                                  have hkb : k < b.length := by omega
                                  obtain ⟨g0, f0, x, rfl, hx0, hx1, _, _⟩ := (H0.out.kp (Kp.of_below HB.out)).at hkl
                                  obtain ⟨g1, f1, y, rfl, hy0, hy1, _, _⟩ := (H1.out.kp (Kp.of_below HB.out)).at hkb
                                  have HNx := hid (alike_next hx0 hy0 htk)
                                  have HLb := hid hlb
                                  clear hx0 hy0 htk hlb
                                  by_cases hxy : x = y
                                  · have HTk := hid (HNx.out.2 hxy)
                                    subst hxy
                                    go_wp2
                                    go_region
                                    go_wp2
                                    go_roundw
                                    case rel => exact ⟨k + 1, true, by omega, by go_num, by simp, fun _ => ⟨HLb.out, HTk.out⟩, HBl.out.drew⟩
                                    case measure => simp [intOf]; omega
                                  · go_wp2
                                    go_region
                                    go_wp2
                                    go_roundw
                                    case rel => exact ⟨k + 1, false, by omega, by go_num, by simp [hxy], (fun h => by cases h), HBl.out.drew⟩
                                    case measure => simp [intOf]; omega
                              · cases B with
                                | false =>
                                  go_wp2
                                  go_ret
                                  exact ⟨rfl, HB.out⟩
                                | true =>
                                  obtain ⟨hlb, htk⟩ := HBi.out rfl
                                  rw [List.take_of_length_le (by omega), List.take_of_length_le (by omega)] at htk
                                  exact absurd htk HAb.out
                          · have hlt2 : ((a.length : Int) == (b.length : Int)) = false := beq_eq_false_iff_ne.2 (by omega)
                            have hlt3 : (a.length == b.length) = false := beq_eq_false_iff_ne.2 hll
                            go_wp2
                            go_loopw [21, 22] (fun bv iv wx => ∃ (k : Nat) (B : Bool), k ≤ a.length ∧ iv = .int .i64 k ∧ bv = .bool B ∧ (B = true → a.length = b.length ∧ a.take k = b.take k) ∧ Below we.heap.size we wx) (fun _ iv _ => a.length - (intOf iv).toNat)
                            case atStart => exact ⟨0, false, Nat.zero_le _, rfl, rfl, (fun h => by cases h), Below.refl _ _⟩
                            case round =>
                              obtain ⟨k, B, hk, rfl, rfl, hB, hb⟩ := hrel
                              have HBl := hid hb
                              have HBi := hid hB
                              clear hB
                              have HBn := hid (below_step HB.out hb)
                              have k0n := (Kp.of_below hb).cell _ _ k0
                              have k1n := (Kp.of_below hb).cell _ _ k1
                              clear hb HB k0 k1
                              have HB := HBn
                              have k0 := k0n
                              have k1 := k1n
                              clear HBn k0n k1n
                              by_cases hkl : k < a.length
                              · cases B with
                                | false =>
                                  go_wp2
                                  go_ret
                                  exact ⟨rfl, HB.out⟩
                                | true =>
                                  obtain ⟨hlb, htk⟩ := HBi.out rfl
                                  have hkb : k < b.length := by omega
                                  obtain ⟨g0, f0, x, rfl, hx0, hx1, _, _⟩ := (H0.out.kp (Kp.of_below HB.out)).at hkl
                                  obtain ⟨g1, f1, y, rfl, hy0, hy1, _, _⟩ := (H1.out.kp (Kp.of_below HB.out)).at hkb
                                  have HNx := hid (alike_next hx0 hy0 htk)
                                  have HLb := hid hlb
                                  clear hx0 hy0 htk hlb
                                  by_cases hxy : x = y
                                  · have HTk := hid (HNx.out.2 hxy)
                                    subst hxy
                                    go_wp2
                                    go_region
                                    go_wp2
                                    go_roundw
                                    case rel => exact ⟨k + 1, true, by omega, by go_num, by simp, fun _ => ⟨HLb.out, HTk.out⟩, HBl.out.drew⟩
                                    case measure => simp [intOf]; omega
                                  · go_wp2
                                    go_region
                                    go_wp2
                                    go_roundw
                                    case rel => exact ⟨k + 1, false, by omega, by go_num, by simp [hxy], (fun h => by cases h), HBl.out.drew⟩
                                    case measure => simp [intOf]; omega
                              · cases B with
                                | false =>
                                  go_wp2
                                  go_ret
                                  exact ⟨rfl, HB.out⟩
                                | true =>
                                  obtain ⟨hlb, htk⟩ := HBi.out rfl
                                  rw [List.take_of_length_le (by omega), List.take_of_length_le (by omega)] at htk
                                  exact absurd htk HAb.out
        · have hd : decide (0 < ((varsL b).length : Int)) = true := decide_eq_true (by omega)
          have hd2 : (0 : Int) < ((varsL b).length : Int) := by omega
          have hd3 : 0 < (varsL b).length := by omega
          go_wp2
          go_ret
          exact ⟨rfl, HB.out⟩
      · have hd : decide (0 < ((varsL a).length : Int)) = true := decide_eq_true (by omega)
        have hd2 : (0 : Int) < ((varsL a).length : Int) := by omega
        have hd3 : 0 < (varsL a).length := by omega
        go_wp2
        go_ret
        exact ⟨rfl, HB.out⟩

end Go.Proofs.YthjghdpiokpnfaaDoor
