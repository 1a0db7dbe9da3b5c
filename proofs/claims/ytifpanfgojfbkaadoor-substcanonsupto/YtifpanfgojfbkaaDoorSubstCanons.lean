/- SubstCanons. -/
import Derived.Test.YtifpanfgojfbkaaDoorTRefCan
namespace Go.Proofs.YtifpanfgojfbkaaDoor
open Go.RowKit Go.Maps Go.BigFrame

theorem OwR.shapes {w w' : World} {b : Nat} {vs : List Value} {l : List (List Int)} (h : OwR w b vs l) (hb : Below w.heap.size w w') : ∀ (j : Nat) (u : Value) (x : List Int), vs[j]? = some u → l[j]? = some x → RowS w' b w.heap.size 3 u x.length := fun j u x hj hx => RowS.of (h.2 j u x hj hx).2 hb

theorem le_sum : ∀ {l : List Nat} {n : Nat}, n ∈ l → n ≤ l.sum
  | a :: l, n, h => by
    rw [List.sum_cons]
    cases h with
    | head => omega
    | tail _ h => have := le_sum h; omega

theorem own_shape {w : World} {base : Nat} {e : TypeId} {s n : Nat} {v : Value} {xs : List Value} (h : w.ownsRow base e s v n xs) : ∃ ao cap, v = .slice ao n cap ∧ n ≤ cap ∧ cap ≤ maxLen := by
  rcases h.2 with ⟨rfl, hn⟩ | ⟨g, cap, cur, rfl, hb, hg, hc, hm, hs, ht⟩
  · exact ⟨none, 0, by rw [hn], by omega, by simp [maxLen]⟩
  · exact ⟨_, cap, rfl, hc, hm⟩

theorem own_spl {w w' : World} {b T : Nat} {e : TypeId} {s n : Nat} {v : Value} {xs : List Value} (h : w.ownsRow T e s v n xs) (hs : Spl b T w w') : w'.ownsRow T e s v n xs := by
  refine ⟨h.1, ?_⟩
  rcases h.2 with h | ⟨g, cap, cur, rfl, hb, hgg, r⟩
  · exact .inl h
  · exact .inr ⟨g, cap, cur, rfl, hb, (hs.block g (Array.getElem?_eq_some_iff.1 hgg).1 (.inr hb)).trans hgg, r⟩

theorem OwR.spl {w w' : World} {b T : Nat} {vs : List Value} {l : List (List Int)} (h : OwR w T vs l) (hs : Spl b T w w') : OwR w' T vs l :=
  ⟨h.1, fun j u x hj hx => ⟨(h.2 j u x hj hx).1, own_spl (h.2 j u x hj hx).2 hs⟩⟩

theorem below_spl {w w6 w' : World} {T : Nat} (h : Below w.heap.size w w6) (hs : Spl w.heap.size T w6 w') : Below w.heap.size w w' :=
  ⟨hs.os.trans h.os, hs.tape.trans h.tape, hs.output.trans h.output, Nat.le_trans h.size hs.size, fun k hk => (hs.block k (Nat.lt_of_lt_of_le hk h.size) (.inl hk)).trans (h.block k hk)⟩

set_option maxRecDepth 100000 in
set_option maxHeartbeats 1600000 in
theorem substCanons_any (v : Value) (l : List (List Int)) (w : World) (h : Rs w v l) (hT : Tabs w) (hn : l.length ≤ 1048576) (hsum : (l.map List.length).sum ≤ 1048576) :
    Calls Tryd.prog 6 #[v] w fun e w' => e = .returned (.bool true) ∧ Below w.heap.size w w' := by
  obtain ⟨i1, hi1, hy0, hy1, hy2⟩ := info_parts info_int
  obtain ⟨ao, cap, rfl, hao, hca, _⟩ := Row.flat h
  unfold maxLen at hca
  have HL := hid h
  have HSm := hid h.small
  have HT := hid hT
  clear h hT
  go_enter Tryd.func6, Tryd.ntmps6
  go_wp2_with fail
  refine (shown_any w HT.out).mono ?_
  rintro e w1 ⟨rfl, hb1⟩
  have HB1 := hid hb1
  have HL1 := hid (HL.out.kp (Kp.of_below hb1))
  clear hb1
  go_wp2
  go_loopw [4, 5] (fun x iv wr => ∃ (i : Nat) (vs : List Value), i ≤ l.length ∧ iv = .int .i64 i ∧ wr.ownsRow w1.heap.size 30 1 x i vs ∧ OwR wr w1.heap.size vs (l.take i) ∧ Below w1.heap.size w1 wr) (fun _ iv _ => l.length - (intOf iv).toNat)
  case atStart => exact ⟨0, [], Nat.zero_le _, rfl, empty_row _ (Nat.le_refl _), ⟨rfl, fun j u x hj => (by simp at hj)⟩, below_alloc _⟩
  case round =>
    obtain ⟨i, vs, hi, rfl, how, hor, hbl⟩ := hrel
    have HOw := hid how
    have HOr := hid hor
    have HBl := hid hbl
    clear how hor
    by_cases hlt : i < l.length
    · obtain ⟨g, off, ra, t, rc, rfl, hti, hc0, hit, ht8⟩ := (HL1.out.kp (Kp.of_below hbl)).at hlt
      have HTi := hid hti
      have hc1 := (Kp.of_below (below_alloc (w := wr) (.cells #[] 3))).cell _ _ hc0
      have hgne : g ≠ wr.heap.size := by have := World.block_lt_of_cell? _ _ hc0; simp only at this; omega
      obtain ⟨va, w3, hr3, ho3, hg3⟩ := copy_ints 30 (base := wr.heap.size) (g := wr.heap.size) (empty_row (w := wr) 3 (Nat.le_refl _)) (hit.kp (Kp.of_below (below_alloc _))) (below_alloc _).size (by omega)
      have HR3 := hid hr3
      have HK3 : Hid (Below wr.heap.size wr w3) := grown_below (below_alloc _) hg3 (Nat.le_refl _)
      have HO3 := hid (ho3.mono HBl.out.size)
      obtain ⟨xo, xc, rfl, _, _⟩ := ho3.shape
      obtain ⟨v6, w6, hr6, ho6, hg6⟩ := join_row 37 (ownsRow_later HOw.out HK3.out) (Nat.le_trans HBl.out.size HK3.out.size) (by omega) (u := .slice xo t.length xc) rfl
      have HR6 := hid hr6
      have HO6 := hid ho6
      have hba := below_step HK3.out (below_alloc (.cells #[.slice xo t.length xc] 30))
      have HW6 : Hid (OwR w6 w1.heap.size (vs ++ [.slice xo t.length xc]) (l.take (i + 1))) := by
        have hk : ∀ {u : Value} {x : List Int}, OwI (w3.alloc (.cells #[.slice xo t.length xc] 30)) w1.heap.size u x → OwI w6 w1.heap.size u x := fun {u x} hu => hu.kept hg6 (ownsRow_apart hu.2 (ownsRow_later HOw.out hba) (by decide))
        rw [take_get HTi.out]
        refine ⟨by rw [List.length_append, List.length_append, HOr.out.1]; rfl, fun j u x hj hx => ?_⟩
        by_cases hjl : j < vs.length
        · rw [List.getElem?_append_left hjl] at hj
          rw [List.getElem?_append_left (by rw [← HOr.out.1]; exact hjl)] at hx
          exact hk ((HOr.out.2 j u x hj hx).later hba)
        · rw [List.getElem?_append_right (by omega)] at hj
          rw [List.getElem?_append_right (by rw [← HOr.out.1]; omega), ← HOr.out.1] at hx
          have hj0 : j - vs.length = 0 := by
            have := (List.getElem?_eq_some_iff.1 hj).1
            simp at this
            omega
          rw [hj0] at hj hx
          simp at hj hx
          subst hj
          subst hx
          exact hk (HO3.out.later (below_alloc _))
      have HB6 : Hid (Below w1.heap.size w1 w6) := (below_step HBl.out hba).grown hg6 (below_step HBl.out hba).size (fun j hj => own_blk HOw.out hj)
      clear hr3 ho3 hg3 hr6 ho6 hg6 hba hti hit hbl
      go_wp2_with (first
        | (at_builtin; refine wpList_append_run rfl _ _ _ rfl _ _ rfl rfl HR3.out ?_)
        | (at_builtin; refine wpList_append_run rfl _ _ _ rfl _ _ rfl rfl HR6.out ?_))
      go_roundw
      case rel => exact ⟨i + 1, _, by omega, by go_num, HO6.out, HW6.out, HB6.out⟩
      case measure => simp [intOf]; omega
    · have hie : i = l.length := by omega
      subst hie
      rw [List.take_length] at HOr
      have HOwn : Hid (Rs wr u4 l) := rs_of_own HOw.out HOr.out HSm.out
      have HB2 := hid (below_step HB1.out HBl.out)
      obtain ⟨w2, hw2⟩ : ∃ X, X = wr := ⟨_, rfl⟩
      rw [← hw2] at HOwn HB2 ⊢
      clear hw2 HOw HOr HBl hbl HL1
      have hcl := canL_length l
      have hcs : (canL l).map List.length = l.map List.length := canG_lens l []
      go_wp2_with fail
      refine (canon_any u4 l w2 HOwn.out (by omega) (by omega)).mono ?_
      rintro e w3 ⟨va, vs3, rfl, ho3, hr3, hb3⟩
      have HA3 := hid ho3
      have HV3 := hid hr3
      have HK3 := hid hb3
      have HB3 := hid (below_step HB2.out hb3)
      clear ho3 hr3 hb3
      go_wp2_with fail
      refine (refCanon_any _ l w3 (HL.out.kp (Kp.of_below HB3.out)) hn hsum).mono ?_
      rintro e w4 ⟨vb, vs4, rfl, ho4, hr4, hb4⟩
      have HA4 := hid ho4
      have HV4 := hid hr4
      have HK4 := hid hb4
      have HB4 := hid (below_step HB3.out hb4)
      clear ho4 hr4 hb4
      have HRa : Hid (Rs w4 va (canL l)) := Rs.kp (rs_of_own (by rw [hcl]; exact HA3.out) HV3.out (lens_small hcs HSm.out)) (Kp.of_below HK4.out)
      have HRb : Hid (Rs w4 vb (canL l)) := rs_of_own (by rw [hcl]; exact HA4.out) HV4.out (lens_small hcs HSm.out)
      go_wp2_with fail
      refine (sameAll_any va vb _ _ w4 HRa.out HRb.out).mono ?_
      rintro e w5 ⟨rfl, hb5⟩
      rw [decide_eq_true rfl]
      have HK5 := hid hb5
      have HB5 := hid (below_step HB4.out hb5)
      clear hb5
      go_wp2_with fail
      refine (sameAll_any u4 _ l l w5 (HOwn.out.kp (Kp.of_below (below_step HK3.out (below_step HK4.out HK5.out)))) (HL.out.kp (Kp.of_below HB5.out))).mono ?_
      rintro e w6 ⟨rfl, hb6⟩
      rw [decide_eq_true rfl]
      have HK6 := hid (below_step HK5.out hb6)
      have HB6 := hid (below_step HB5.out hb6)
      clear hb6 HK5 HB5
      have hk36 := below_step HK4.out HK6.out
      obtain ⟨xo, xc, rfl, hxc1, hxc2⟩ := own_shape HA3.out
      unfold maxLen at hxc2
      have HRow : Hid (∀ (j : Nat) (u : Value) (x : List Int), vs3[j]? = some u → (canL l)[j]? = some x → RowS w6 w2.heap.size w3.heap.size 3 u x.length) := HV3.out.shapes hk36
      have HCells : Hid (∀ (j : Nat) (u : Value) (ga : Nat), j < l.length → xo = some ⟨ga, 0, none⟩ → vs3[j]? = some u → w6.cell? ⟨ga, j, none⟩ = some u) := fun j u ga hj e hu => by
        have h9 := ownsRow_later HA3.out hk36
        rw [e] at h9
        rw [World.ownsRow.cellAt h9 j (by omega)]
        exact hu
      have HShp : Hid (∀ ga : Nat, xo = some ⟨ga, 0, none⟩ → Shp w6 ga 30 xc ∧ w2.heap.size ≤ ga ∧ ga < w3.heap.size) := fun ga e => by
        have h9 := HA3.out
        rw [e] at h9
        rcases h9.2 with ⟨h8, _⟩ | ⟨g, cap, cur, hv, hb, hg, hc, hm, hs, _⟩
        · cases h8
        · simp only [Value.slice.injEq, Option.some.injEq, Addr.mk.injEq, and_true, true_and] at hv
          obtain ⟨rfl, rfl⟩ := hv
          have hlt := (Array.getElem?_eq_some_iff.1 hg).1
          exact ⟨⟨cur, by rw [hk36.block ga hlt]; exact hg, by omega⟩, hb, hlt⟩
      have HForm : Hid (0 < l.length → ∃ ga, xo = some ⟨ga, 0, none⟩) := fun h0 => by
        obtain ⟨g, c, hv⟩ := own_form HA3.out h0
        simp only [Value.slice.injEq] at hv
        exact ⟨g, hv.1⟩
      have HVl : Hid (vs3.length = l.length) := HV3.out.1.trans hcl
      have HA6 : Hid (w6.ownsRow w3.heap.size 30 1 vb l.length vs4) := ownsRow_later HA4.out HK6.out
      have HV6 : Hid (OwR w6 w3.heap.size vs4 (canL l)) := HV4.out.later HK6.out
      have HK26 := hid (below_step HK3.out hk36)
      have HLen : Hid (∀ (j : Nat) (x : List Int), (canL l)[j]? = some x → x.length ≤ 1048576) := fun j x hx => by
        have h1 : x.length ∈ (canL l).map List.length := List.mem_map.2 ⟨x, List.mem_of_getElem? hx, rfl⟩
        rw [hcs] at h1
        have := le_sum h1
        omega
      clear hk36 HA3 HV3 HA4 HV4 HRa HRb HK3 HK4 HK6
      go_wp2
      go_loopw [8] (fun iv wr => ∃ i : Nat, i ≤ l.length ∧ iv = .int .i64 i ∧ Spl w2.heap.size w3.heap.size w6 wr ∧ ∀ (j : Nat) (u : Value) (ga : Nat), i ≤ j → j < l.length → xo = some ⟨ga, 0, none⟩ → vs3[j]? = some u → wr.cell? ⟨ga, j, none⟩ = some u) (fun iv _ => l.length - (intOf iv).toNat)
      case atStart => exact ⟨0, Nat.zero_le _, rfl, Spl.refl _ _ _, fun j u ga _ hj e hu => HCells.out j u ga hj e hu⟩
      case round =>
        obtain ⟨i, hi, rfl, hsp, hcs2⟩ := hrel
        have HSp := hid hsp
        have HCs := hid hcs2
        clear hsp hcs2
        by_cases hil : i < l.length
        · obtain ⟨ga, rfl⟩ := HForm.out (by omega)
          obtain ⟨hsA, hga1, hga2⟩ := HShp.out ga rfl
          have HSA := hid hsA
          obtain ⟨u, hu⟩ : ∃ u, vs3[i]? = some u := ⟨_, List.getElem?_eq_getElem (by rw [HVl.out]; exact hil)⟩
          obtain ⟨x, hx⟩ : ∃ x, (canL l)[i]? = some x := ⟨_, List.getElem?_eq_getElem (by rw [hcl]; exact hil)⟩
          have hrow := HRow.out i u x hu hx
          have hxl := HLen.out i x hx
          obtain ⟨ro, rcp, rfl, hrc1, hrc2⟩ := hrow.form
          unfold maxLen at hrc2
          have y1 := HCs.out i _ ga (Nat.le_refl _) hil rfl hu
          have HRw := hid hrow
          clear hrow hu hx hsA
          generalize x.length = n1 at hxl hrc1 HRw y1
          obtain ⟨wo, hwo⟩ : ∃ X, X = wr := ⟨wr, rfl⟩
          rw [← hwo] at HSp HCs y1 ⊢
          clear hwo
          go_wp2_with fail
          go_loopw [9] (fun kv wx => ∃ k : Nat, k ≤ n1 ∧ kv = .int .i64 k ∧ Spl w2.heap.size w3.heap.size w6 wx ∧ wx.heap[ga]? = wo.heap[ga]?) (fun kv _ => n1 - (intOf kv).toNat)
          case atStart => exact ⟨0, Nat.zero_le _, rfl, HSp.out, rfl⟩
          case round =>
            obtain ⟨k, hk, rfl, hspx, hgx⟩ := hrel
            have HSx := hid hspx
            have HGx := hid hgx
            have z1 : wr.cell? ⟨ga, i, none⟩ = some (.slice ro n1 rcp) := by rw [World.cell?_of_block hgx]; exact y1
            by_cases hkn : k < n1
            · obtain ⟨g1, rfl, hg1, hg2, hsh⟩ := (HRw.out.spl hspx).at hkn
              obtain ⟨⟨u1, hu1⟩, hf1⟩ := hsh.cell (Nat.lt_of_lt_of_le hkn hrc1)
              have hne : ga ≠ g1 := (hspx.shape _ _ _ HSA.out).ne hsh (by decide)
              clear hspx hgx hsh
              go_wp2
              go_roundw
              case rel => exact ⟨k + 1, by omega, by go_num, HSx.out.setCell (.inl ⟨hg1, hg2⟩) _ _, by rw [heap_setCell_other _ _ _ _ hne]; exact HGx.out⟩
              case measure => simp [intOf]; omega
            · have hke : k = n1 := by omega
              clear hspx hgx
              obtain ⟨g4, cap4, w4', hr4, hsh4, hc4, hm4, hg4, hsp4, hk4⟩ := append_spl 30 30 3 i1 _ 8 under_ints hi1 hy0 hy1 hy2 rfl (HRw.out.spl (HSx.out.trans (Spl.below (below_alloc (.cells #[.int .i64 98] 3))))) (ad := ⟨wr.heap.size, 0, none⟩) (c := 1) (x := .int .i64 98) (by rw [cell_of_row _ _ _ _ _ _ (heap_alloc_new _ _)]; rfl) rfl (by omega) (by unfold maxLen; omega)
              obtain ⟨hs4, hgp4⟩ := after_append HSx.out HGx.out hsp4 hk4 HSA.out (by decide)
              unfold maxLen at hm4
              have HR4 := hid hr4
              have HS4 := hid hs4
              have HG4 := hid hgp4
              obtain ⟨⟨q1, hq1⟩, hq2⟩ := (hs4.shape _ _ _ HSA.out).cell (k := i) (by omega)
              have z2 := cell_old (o := .cells #[.int .i64 98] 3) z1
              have hgw : ga < wr.heap.size := World.block_lt_of_cell? _ _ z1
              clear hr4 hs4 hgp4 hsp4 hk4 hsh4 hg4
              go_wp2_with (first
                | (at_builtin; refine wpList_append_run rfl _ _ _ rfl _ _ rfl rfl HR4.out ?_))
              go_roundw
              case rel =>
                refine ⟨i + 1, by omega, by go_num, HS4.out.setCell (.inl ⟨hga1, hga2⟩) _ _, fun j u2 gb hj hjl e hu2 => ?_⟩
                cases e
                rw [World.cell?_setCell_other _ _ _ _ (by simp <;> omega), World.cell?_of_block HG4.out]
                exact HCs.out j u2 ga (by omega) hjl rfl hu2
              case measure => simp [intOf]; omega
        · have HBw := hid (below_spl HK26.out HSp.out)
          have HRb2 : Hid (Rs wr vb (canL l)) := rs_of_own (by rw [hcl]; exact own_spl HA6.out HSp.out) (HV6.out.spl HSp.out) (lens_small hcs HSm.out)
          have HB7 := hid (below_step HB2.out HBw.out)
          clear HCs
          go_wp2_with fail
          refine (canon_any u4 l wr (HOwn.out.kp (Kp.of_below HBw.out)) (by omega) (by omega)).mono ?_
          rintro e w8 ⟨v8, vs8, rfl, ho8, hr8, hb8⟩
          have HR8 : Hid (Rs w8 v8 (canL l)) := rs_of_own (by rw [hcl]; exact ho8) hr8 (lens_small hcs HSm.out)
          have HRb8 := hid (HRb2.out.kp (Kp.of_below hb8))
          have HBw8 := hid (below_step HBw.out hb8)
          clear ho8 hr8 hb8
          go_wp2_with fail
          refine (sameAll_any v8 vb _ _ w8 HR8.out HRb8.out).mono ?_
          rintro e w9 ⟨rfl, hb9⟩
          rw [decide_eq_true rfl]
          have HBw9 := hid (below_step HBw8.out hb9)
          have HB9 := hid (below_step HB2.out HBw9.out)
          clear hb9
          go_wp2_with fail
          refine (sameAll_any u4 _ l l w9 (HOwn.out.kp (Kp.of_below HBw9.out)) (HL.out.kp (Kp.of_below HB9.out))).mono ?_
          rintro e w10 ⟨rfl, hb10⟩
          rw [decide_eq_true rfl]
          have HB10 := hid (below_step HB9.out hb10)
          clear hb10
          go_wp2
          go_ret
          exact ⟨rfl, HB10.out⟩

end Go.Proofs.YtifpanfgojfbkaaDoor
