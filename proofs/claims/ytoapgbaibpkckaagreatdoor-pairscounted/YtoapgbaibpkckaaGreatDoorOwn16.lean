/- Texts of the proof, one behind the other. -/
import Derived.Test.YtoapgbaibpkckaaGreatDoorOwn15
import Derived.Test.YtoapgbaibpkckaaGreatDoorOwn6
/- Graph of package pairs walked. -/
namespace Go.Proofs.YtoapgbaibpkckaaGreatDoor
open Go.RowKit Go.Maps Go.BigFrame

theorem graphL13_rows {sig : List Sy} {rs l : List Rl} (hn : l.length ≤ 1048576) : ∀ r ∈ graphL13 sig rs l, r.length * 8 ≤ 140737488351232 := fun r hr => by
  unfold graphL13 at hr
  split at hr
  · obtain ⟨p, _, rfl⟩ := List.mem_map.1 hr
    have := rowK13_len (sig := sig) (rs := rs) (l := l) (p := p) (k := l.length)
    omega
  · obtain ⟨p, _, rfl⟩ := List.mem_map.1 hr
    simp

/-- The rows made so far: those of the first i pairs whole, of the next one up to j. -/
noncomputable def partG13 (sig : List Sy) (rs l : List Rl) (i : Nat) (p : Rl) (j : Nat) : List (List Int) := ((l.take i).map fun p => rowK13 sig rs l p l.length) ++ (rowK13 sig rs l p j :: List.replicate (l.length - (i + 1)) [])

noncomputable def doneG13 (sig : List Sy) (rs l : List Rl) (i : Nat) : List (List Int) := ((l.take i).map fun p => rowK13 sig rs l p l.length) ++ List.replicate (l.length - i) []

theorem doneG13_part {sig : List Sy} {rs l : List Rl} {i : Nat} {p : Rl} (h : l[i]? = some p) : doneG13 sig rs l i = partG13 sig rs l i p 0 := by
  have hi := (List.getElem?_eq_some_iff.1 h).1
  unfold doneG13 partG13
  congr 1
  rw [show l.length - i = (l.length - (i + 1)) + 1 by omega, List.replicate_succ]
  rfl

theorem partG13_done {sig : List Sy} {rs l : List Rl} {i : Nat} {p : Rl} (h : l[i]? = some p) : partG13 sig rs l i p l.length = doneG13 sig rs l (i + 1) := by
  unfold doneG13 partG13
  rw [take_get h, List.map_append, List.append_assoc]
  rfl

theorem partG13_at {sig : List Sy} {rs l : List Rl} {i j : Nat} {p : Rl} (h : l[i]? = some p) : (partG13 sig rs l i p j)[i]? = some (rowK13 sig rs l p j) := by
  have hi := (List.getElem?_eq_some_iff.1 h).1
  have hl : ((l.take i).map fun p => rowK13 sig rs l p l.length).length = i := by rw [List.length_map, List.length_take]; omega
  unfold partG13
  rw [List.getElem?_append_right (by omega), hl, Nat.sub_self]
  rfl

theorem partG13_set {sig : List Sy} {rs l : List Rl} {i j : Nat} {p : Rl} (h : l[i]? = some p) (r : List Int) (hr : rowK13 sig rs l p (j + 1) = r) : (partG13 sig rs l i p j).set i r = partG13 sig rs l i p (j + 1) := by
  have hi := (List.getElem?_eq_some_iff.1 h).1
  have hl : ((l.take i).map fun p => rowK13 sig rs l p l.length).length = i := by rw [List.length_map, List.length_take]; omega
  unfold partG13
  rw [List.set_append_right _ _ (by omega), hl, Nat.sub_self, hr]
  rfl

theorem doneG13_all {sig : List Sy} {rs l : List Rl} (hB : sysB sig rs = true) : doneG13 sig rs l l.length = graphL13 sig rs l := by
  unfold doneG13 graphL13
  rw [if_pos hB, List.take_length, Nat.sub_self]
  simp

set_option maxRecDepth 100000 in
set_option maxHeartbeats 3200000 in
theorem graph13_any (sv rv lv : Value) (sig : List Sy) (rs l : List Rl) (w : World) (hs : Sg w sv sig) (hr : RU w rv rs) (hl : RU w lv l) (hT : Tabs w) (hn : l.length ≤ 1048576) (hb : ∀ p ∈ l, p.1.length ≤ 1048576 ∧ p.2.length ≤ 1048576) :
    Calls Tryz.prog 17 #[.agg #[sv, rv], lv] w fun e w' => ∃ v', e = .returned v' ∧ Rs w' v' (graphL13 sig rs l) ∧ Below w.heap.size w w' := by
  obtain ⟨so, sc, rfl, hso, hsc, _⟩ := Row.flat hs
  obtain ⟨ro, rc, rfl, hro, hrc, _⟩ := Row.flat hr
  obtain ⟨lo, lc, rfl, hlo, hlc, _⟩ := Row.flat hl
  unfold maxLen at hsc hrc hlc
  have HS := hid hs
  have HR := hid hr
  have HL := hid hl
  have HT := hid hT
  have HLb := hid hb
  clear hs hr hT hl hb
  obtain ⟨w0, hw0⟩ : ∃ X, X = w.alloc (.cells #[.slice so sig.length sc, .slice ro rs.length rc] 32) := ⟨_, rfl⟩
  have C0 : Hid (Below w.heap.size w w0) := by rw [hw0]; exact below_alloc _
  have HC : Hid (∀ W, Below w0.heap.size w0 W → W.cell? ⟨w.heap.size, 0, none⟩ = some (.slice so sig.length sc) ∧ W.cell? ⟨w.heap.size, 1, none⟩ = some (.slice ro rs.length rc)) := fun W hW => by
    have hk := Kp.of_below hW
    rw [hw0] at hk
    exact ⟨hk.cell _ _ (cell_new rfl), hk.cell _ _ (cell_new rfl)⟩
  have hmk := run_make13 w0 l.length (by omega)
  obtain ⟨W1, hW1⟩ : ∃ X, X = w0.alloc (.cells (List.replicate l.length (Value.slice none 0 0)).toArray 36) := ⟨_, rfl⟩
  have C1 : Hid (Below w0.heap.size w0 W1) := by rw [hW1]; exact below_alloc _
  have HG1 : Hid (W1.heap[w0.heap.size]? = some (.cells (List.replicate l.length (Value.slice none 0 0)).toArray 36 (0, 0))) := by rw [hW1]; exact heap_alloc_new _ _
  have HSl : Hid (SlAll W1 w0.heap.size) := by rw [hW1]; exact SlAll.new _ _ _
  have HW1s : Hid (w0.heap.size < W1.heap.size) := by rw [hW1, World.size_alloc]; exact Nat.lt_succ_self _
  rw [← hW1] at hmk
  clear hW1
  generalize hg : w0.heap.size = g at hmk
  have HGg := hid hg
  have CW1 := hid (below_step C0.out C1.out)
  have HNe := hid (newEstimate_any _ _ sig rs W1 (HS.out.kp (Kp.of_below CW1.out)) (HR.out.kp (Kp.of_below CW1.out)) (HT.out.below CW1.out))
  obtain ⟨x0, x1⟩ := HC.out W1 C1.out
  obtain ⟨S, hS⟩ : ∃ S, S = sysB sig rs := ⟨_, rfl⟩
  rw [← hS] at HNe
  have HSb := hid hS
  clear hS hg
  go_enter Tryz.func17, Tryz.ntmps17
  go_upto_region 1 with fail
  rw [← hw0]
  clear hw0
  go_wp2_with fail
  refine HNe.out.mono ?_
  rintro e w2 ⟨ev, rfl, hze, hest, hb2⟩
  have D2 := hid hb2
  have B2 := hid (below_step CW1.out hb2)
  have HEs := hid hest
  have HZe := hid hze
  clear hb2 hest hze x0 x1 hmk
  have HGb : Hid (w2.heap[g]? = some (.cells (List.replicate l.length (Value.slice none 0 0)).toArray 36 (0, 0))) := by
    show _ = _
    rw [← HGg.out]
    exact (D2.out.block _ HW1s.out).trans HG1.out
  have HSl2 : Hid (SlAll w2 g) := by
    show SlAll _ _
    rw [← HGg.out]
    exact HSl.out.kept (D2.out.block _ HW1s.out)
  have HGw : Hid (g < w2.heap.size ∧ w.heap.size ≤ g) := by
    show _ ∧ _
    have h1 := HW1s.out
    have h2 := D2.out.size
    have h3 := C0.out.size
    have h4 := HGg.out
    omega
  cases S
  · have HRs : Hid (Rs w2 (.slice (some ⟨g, 0, none⟩) l.length l.length) (graphL13 sig rs l)) := by
      have h1 : graphL13 sig rs l = List.replicate l.length [] := by
        unfold graphL13
        rw [← HSb.out, if_neg (by decide), List.eq_replicate_iff]
        exact ⟨by simp, fun b hb => by obtain ⟨_, _, rfl⟩ := List.mem_map.1 hb; rfl⟩
      show Rs _ _ _
      rw [h1]
      exact (G13.start HGw.out.1 HGb.out).rs hn (fun r hr => by rw [(List.mem_replicate.1 hr).2]; simp)
    have hz := HZe.out rfl
    subst hz
    obtain ⟨W2, hW2⟩ : ∃ X, X = w2.alloc (.cells #[.slice none 0 0, .int .i64 0, .nilFunc] 69) := ⟨_, rfl⟩
    have B3 : Hid (Below w2.heap.size w2 W2) := by rw [hW2]; exact below_alloc _
    go_upto_region 3 with fail
    rw [← hW2]
    clear hW2
    go_wp2
    go_ret
    exact ⟨_, rfl, HRs.out.kp (Kp.of_below B3.out), below_step B2.out B3.out⟩
  · obtain ⟨hest, hebs⟩ := HEs.out rfl
    have hest2 := hest
    obtain ⟨so2, sc2, bd, dv, he9, _, _, _⟩ := hest2
    obtain ⟨e1, h91⟩ : ∃ x, x = Value.slice so2 (extL sig).length sc2 := ⟨_, rfl⟩
    obtain ⟨e2, h92⟩ : ∃ x, x = Value.int .i64 (sig.length : Int) := ⟨_, rfl⟩
    obtain ⟨e3, h93⟩ : ∃ x, x = Value.func (.func 59) #[] #[.pointer (some ⟨bd, 0, none⟩)] := ⟨_, rfl⟩
    have he8 : ev = .agg #[e1, e2, e3] := by rw [he9, h91, h92, h93]
    obtain ⟨W2, hW2⟩ : ∃ X, X = w2.alloc (.cells #[e1, e2, e3] 69) := ⟨_, rfl⟩
    obtain ⟨b2, hb2⟩ : ∃ X, X = w2.heap.size := ⟨_, rfl⟩
    have B3 : Hid (Below w2.heap.size w2 W2) := by rw [hW2]; exact below_alloc _
    have CB := hid (below_step B2.out B3.out)
    have HEb : Hid (W2.heap[b2]? = some (.cells #[e1, e2, e3] 69 (0, 0))) := by rw [hW2, hb2]; exact heap_alloc_new _ _
    have HSz : Hid (g < b2 ∧ b2 < W2.heap.size) := by
      show _ ∧ _
      rw [hW2, World.size_alloc, hb2]
      exact ⟨HGw.out.1, Nat.lt_succ_self _⟩
    have HGb2 := hid ((B3.out.block _ HGw.out.1).trans HGb.out)
    have HSl3 := hid (HSl2.out.kept (B3.out.block _ HGw.out.1))
    subst he9
    rw [h91, h92, h93] at hW2
    rw [he8] at hest hebs
    have HE2 := hid (hest.kp (Kp.of_below B3.out))
    have HEB := hid hebs
    clear he8 hest hebs
    go_upto_region 3 with fail
    rw [← hW2]
    rw [← hb2]
    clear hW2 h91 h92 h93 hb2
    have hdn := defined_few HSb.out.symm
    go_wp2
    go_loopw [8, 29] (fun nv iv wr => ∃ (k : Nat) (vs : List Value) (N : List (List Int)), iv = .int .i64 k ∧ k ≤ l.length ∧ N = ((l.take k).map fun q => entryL sig q.1) ∧ Rw13 W2 wr nv vs N) (fun _ iv _ => l.length - (intOf iv).toNat)
    case atStart => exact ⟨0, [], [], rfl, Nat.zero_le _, rfl, Rw13.nil (Below.refl _ _)⟩
    case round =>
      obtain ⟨k, vs, N, rfl, hk, hN, hrw⟩ := hrel
      have HN := hid hN
      have HW := hid hrw
      have CR := hid (below_step CB.out hrw.bel)
      obtain ⟨no, nc, rfl, _, hnc⟩ := hrw.shape
      unfold maxLen at hnc
      clear hN hrw
      by_cases hlt : k < l.length
      · obtain ⟨gl, ol, a, b, a1, c1, a2, c2, rfl, hm, hc0, hc1, hi1, hi2, _, _⟩ := HL.out.at hlt
        have hc0 := (Kp.of_below CR.out).cell _ _ hc0
        have hc1 := (Kp.of_below CR.out).cell _ _ hc1
        obtain ⟨W, hW⟩ : ∃ X, X = wr.alloc (.cells #[.slice a1 a.length c1, .slice a2 b.length c2] 38) := ⟨_, rfl⟩
        have BW : Hid (Below wr.heap.size wr W) := by rw [hW]; exact below_alloc _
        have hq1 : W.cell? ⟨wr.heap.size, 0, none⟩ = some (.slice a1 a.length c1) := by rw [hW]; exact cell_new rfl
        have hq2 : W.cell? ⟨wr.heap.size, 1, none⟩ = some (.slice a2 b.length c2) := by rw [hW]; exact cell_new rfl
        have CW := hid (below_step CR.out BW.out)
        have HWW := hid (HW.out.later BW.out)
        have hEb := (HWW.out.bel.block _ HSz.out.2).trans HEb.out
        have z0 := cell_of_row W _ 0 _ _ _ hEb
        have z1 := cell_of_row W _ 1 _ _ _ hEb
        have z2 := cell_of_row W _ 2 _ _ _ hEb
        have HEn := hid (entry_any _ _ _ sig rs a b W (HE2.out.kp (Kp.of_below HWW.out.bel)) (hi1.kp (Kp.of_below CW.out)) (hi2.kp (Kp.of_below CW.out)) (HT.out.below CW.out) (by have h9 := (HLb.out _ (List.mem_of_getElem? hm)).1; simp only at h9; omega))
        have HNn : Hid (N ++ [entryL sig a] = ((l.take (k + 1)).map fun q => entryL sig q.1)) := by
          show _ = _
          rw [take_get hm, List.map_append, HN.out]
          rfl
        have hNl : N.length = k := by rw [HN.out, List.length_map, List.length_take]; omega
        have HNl := hid hNl
        clear hm hi1 hi2 hEb hNl
        go_upto_region 9 with fail
        rw [← hW]
        clear hW hc0 hc1
        go_wp2_with fail
        refine HEn.out.mono ?_
        rintro e w3 ⟨u, rfl, ou, hb3⟩
        obtain ⟨su, cu, rfl, _, _⟩ := ou.shape
        obtain ⟨v4, w4, hr4, h4⟩ := HWW.out.push 41 hb3 ou (by have := HNl.out; omega)
        have HR4 := hid hr4
        have H4 := hid h4
        clear hr4 h4 ou hb3 z0 z1 z2 hq1 hq2
        go_wp2_with (first
          | (at_builtin; refine wpList_append_run rfl _ _ _ rfl _ _ rfl rfl HR4.out ?_))
        go_roundw
        case rel => exact ⟨k + 1, _, _, by go_num, by omega, HNn.out, H4.out⟩
        case measure => simp only [intOf]; omega
      · have hkl : k = l.length := by omega
        have hdk : decide ((k : Int) < (l.length : Int)) = false := by rw [decide_eq_false_iff_not]; omega
        have HNm : Hid (N = l.map fun q => entryL sig q.1) := by
          show _ = _
          rw [HN.out, hkl, List.take_length]
        have HNl : Hid (N.length = l.length) := by
          show _ = _
          rw [HNm.out, List.length_map]
        obtain ⟨W3, hW3⟩ : ∃ X, X = wr := ⟨_, rfl⟩
        rw [← hW3] at HW CR ⊢
        have HGW : Hid (G13 W3 W3 g l.length (List.replicate l.length (.slice none 0 0)) (List.replicate l.length []) []) := by
          have h1 := HSz.out
          have h2 := HW.out.bel.size
          exact G13.start (by omega) ((HW.out.bel.block _ (by omega)).trans HGb2.out)
        have HX : Hid (∀ W, Exg W3 W g → Est W (.agg #[e1, e2, e3]) sig rs ∧ Below w.heap.size w W ∧ (W.cell? ⟨b2, 0, none⟩ = some e1 ∧ W.cell? ⟨b2, 1, none⟩ = some e2 ∧ W.cell? ⟨b2, 2, none⟩ = some e3)) := fun W hW => by
          have h1 := HSz.out
          have h2 := HW.out.bel.size
          have h3 := HGw.out
          have hsl := HSl3.out.kept (HW.out.bel.block _ (by omega))
          have hEb := (hW.same b2 (by omega) (by omega)).trans ((HW.out.bel.block _ h1.2).trans HEb.out)
          have h4 := HW1s.out
          rw [HGg.out] at h4
          exact ⟨Est.exg hW hsl (HE2.out.kp (Kp.of_below HW.out.bel)) HEB.out h4, CR.out.trans (hW.bel.mono h3.2), cell_of_row W _ 0 _ _ _ hEb, cell_of_row W _ 1 _ _ _ hEb, cell_of_row W _ 2 _ _ _ hEb⟩
        have HSn : Hid (SlAll W3 g) := by
          have h1 := HSz.out
          exact HSl3.out.kept (HW.out.bel.block _ (by omega))
        clear hW3 hkl
        go_wp2
        go_loopw [42] (fun iv wr => ∃ (i : Nat) (vals : List Value) (rws : List (List Int)), iv = .int .i64 i ∧ i ≤ l.length ∧ G13 W3 wr g l.length vals rws [] ∧ rws = doneG13 sig rs l i) (fun iv _ => l.length - (intOf iv).toNat)
        case atStart => exact ⟨0, _, _, rfl, Nat.zero_le _, HGW.out, by unfold doneG13; simp⟩
        case round =>
          obtain ⟨i, vals, rws, rfl, hi, hgw, hrs⟩ := hrel
          have HG := hid hgw
          have HRs := hid hrs
          clear hgw hrs
          by_cases hil : i < l.length
          · obtain ⟨gl, ol, a, b, a1, c1, a2, c2, rfl, hm, hc0, hc1, hi1, hi2, _, _⟩ := HL.out.at hil
            have HXr := hid (HX.out wr HG.out.exg)
            have hc0 := (Kp.of_below HXr.out.2.1).cell _ _ hc0
            have hc1 := (Kp.of_below HXr.out.2.1).cell _ _ hc1
            obtain ⟨W, hW⟩ : ∃ X, X = wr.alloc (.cells #[.slice a1 a.length c1, .slice a2 b.length c2] 38) := ⟨_, rfl⟩
            have BW : Hid (Below wr.heap.size wr W) := by rw [hW]; exact below_alloc _
            have hq1 : W.cell? ⟨wr.heap.size, 0, none⟩ = some (.slice a1 a.length c1) := by rw [hW]; exact cell_new rfl
            have hq2 : W.cell? ⟨wr.heap.size, 1, none⟩ = some (.slice a2 b.length c2) := by rw [hW]; exact cell_new rfl
            have HGW2 := hid (HG.out.later BW.out)
            obtain ⟨hes, hbl, z0, z1, z2⟩ := HX.out W HGW2.out.exg
            have HEx := hid (exit_any _ _ _ sig rs a b W hes (hi1.kp (Kp.of_below hbl)) (hi2.kp (Kp.of_below hbl)) (HT.out.below hbl) (by have h9 := (HLb.out _ (List.mem_of_getElem? hm)).2; simp only at h9; omega) hdn)
            have HM := hid hm
            clear hm hi1 hi2 hes hbl
            go_upto_region 14 with fail
            rw [← hW]
            clear hW hc0 hc1
            go_wp2_with fail
            refine HEx.out.mono ?_
            rintro e w5 ⟨xv, rfl, ox, hb5⟩
            have HG5 := hid (HGW2.out.add hb5 ox)
            obtain ⟨xo, xc, rfl, _, _⟩ := ox.shape
            obtain ⟨X, hX⟩ : ∃ X, X = exitL sig rs b := ⟨_, rfl⟩
            rw [← hX] at HG5 ⊢
            have HXe := hid hX
            clear hb5 ox z0 z1 z2 hq1 hq2 hX
            go_wp2
            go_loopw [52] (fun jv wr => ∃ (j : Nat) (vals : List Value) (rws : List (List Int)), jv = .int .i64 j ∧ j ≤ N.length ∧ G13 W3 wr g l.length vals rws [(.slice xo X.length xc, X)] ∧ rws = partG13 sig rs l i (a, b) j) (fun jv _ => N.length - (intOf jv).toNat)
            case atStart => exact ⟨0, vals, rws, rfl, Nat.zero_le _, HG5.out, by rw [HRs.out, doneG13_part HM.out]⟩
            case round =>
              clear HG HRs HG5 HGW2 HXr HEx
              obtain ⟨j, vals, rws, rfl, hj, hgw, hrs⟩ := hrel
              have HG := hid hgw
              have HRs := hid hrs
              clear hgw hrs
              by_cases hjl : j < N.length
              · have hjn : j < l.length := by have := HNl.out; omega
                obtain ⟨q, hq⟩ : ∃ q, l[j]? = some q := ⟨_, List.getElem?_eq_getElem hjn⟩
                have hNj : N[j]? = some (entryL sig q.1) := by rw [HNm.out, List.getElem?_map, hq]; rfl
                obtain ⟨ge, ce, u, e9, hge, hcu, hiu⟩ := HW.out.at hNj
                simp only [Value.slice.injEq, true_and] at e9
                obtain ⟨rfl, rfl⟩ := e9
                have hne : ge ≠ g := by have h1 := HSz.out; omega
                have hcu := HG.out.exg.cell hne hcu
                have hiu := HG.out.exg.is HSn.out hiu
                obtain ⟨au, cu, rfl, _, _, _⟩ := Row.flat hiu
                obtain ⟨hes, hbl, z0, z1, z2⟩ := HX.out wr HG.out.exg
                obtain ⟨bM, hbM⟩ : ∃ bM, bM = meetB (extL sig) X (entryL sig q.1) := ⟨_, rfl⟩
                have HMe := hid (meet_any _ _ _ sig rs X (entryL sig q.1) wr hes HG.out.beside.is hiu (HT.out.below hbl) (by have := exit_few (sig := sig) (rs := rs) (t := b); have := entry_few (sig := sig) (t := q.1); have := HXe.out; rw [this]; omega))
                rw [← hbM] at HMe
                have HRk := hid (rowK13_at (sig := sig) (rs := rs) (p := (a, b)) hq)
                have HbM := hid hbM
                clear hq hNj hne hiu hes hbl hbM
                go_wp2_with fail
                refine HMe.out.mono ?_
                rintro e w7 ⟨rfl, hb7⟩
                have HG7 := hid (HG.out.later hb7)
                clear hb7 hcu z0 z1 z2
                cases bM
                · have HP : Hid (partG13 sig rs l i (a, b) (j + 1) = partG13 sig rs l i (a, b) j) := by
                    show _ = _
                    unfold partG13
                    rw [HRk.out]
                    rw [← HXe.out, ← HbM.out, if_neg (by decide), List.append_nil]
                  go_wp2
                  go_roundw
                  case rel => exact ⟨j + 1, vals, rws, by go_num, by omega, HG7.out, by rw [HP.out, HRs.out]⟩
                  case measure => simp only [intOf]; omega
                · obtain ⟨v, r, hv1, hr1, ho1, hcv, hfv⟩ := HG7.out.one hil
                  have hrr : r = rowK13 sig rs l (a, b) j := by
                    rw [HRs.out, partG13_at HM.out, Option.some.injEq] at hr1
                    exact hr1.symm
                  have hrl : r.length ≤ j := by rw [hrr]; exact rowK13_len
                  obtain ⟨vo, vc, rfl, _, _⟩ := ho1.shape
                  obtain ⟨v', w8, hrun, ⟨va, vm, vd, e8⟩, hc8, hf8, hG8⟩ := HG7.out.push 36 (c := (j : Int)) hil hv1 hr1 (by omega) (by omega) (by omega)
                  have HP : Hid (rws.set i (r ++ [(j : Int)]) = partG13 sig rs l i (a, b) (j + 1)) := by
                    show _ = _
                    rw [HRs.out]
                    refine partG13_set HM.out _ ?_
                    rw [HRk.out, hrr]
                    rw [← HXe.out, ← HbM.out, if_pos rfl]
                  have HRun := hid hrun
                  have HG8 := hid hG8
                  subst e8
                  clear hr1 hv1 ho1 hrr hrl hrun hG8 hfv
                  go_wp2_with (first
                    | (at_builtin; refine wpList_append_run rfl _ _ _ rfl _ _ rfl rfl HRun.out ?_))
                  go_roundw
                  case rel => exact ⟨j + 1, _, _, by go_num, by omega, HG8.out, HP.out⟩
                  case measure => simp only [intOf]; omega
              · have hje : j = N.length := by omega
                have hdj : decide ((j : Int) < (N.length : Int)) = false := by rw [decide_eq_false_iff_not]; omega
                have HP : Hid (rws = doneG13 sig rs l (i + 1)) := by
                  show _ = _
                  rw [HRs.out, hje, HNl.out, partG13_done HM.out]
                clear hje
                go_wp2
                go_roundw
                case rel => exact ⟨i + 1, vals, rws, by go_num, by omega, HG.out.drop, HP.out⟩
                case measure => simp only [intOf]; omega
          · have hie : i = l.length := by omega
            have hdi : decide ((i : Int) < (l.length : Int)) = false := by rw [decide_eq_false_iff_not]; omega
            have HRl : Hid (Rs wr (.slice (some ⟨g, 0, none⟩) l.length l.length) (graphL13 sig rs l)) := by
              have h1 : rws = graphL13 sig rs l := by rw [HRs.out, hie, doneG13_all HSb.out.symm]
              show Rs _ _ _
              have h2 := HG.out.rs hn (fun r hr => graphL13_rows (sig := sig) (rs := rs) hn r (by rw [← h1]; exact hr))
              rw [h1] at h2
              exact h2
            have HBl := hid (HX.out wr HG.out.exg).2.1
            clear hie
            go_wp2
            go_ret
            exact ⟨_, rfl, HRl.out, HBl.out⟩

end Go.Proofs.YtoapgbaibpkckaaGreatDoor

/- The example's system in layer 13; the examples, plainly. -/
namespace Go.Proofs.YtoapgbaibpkckaaGreatDoor
open Go.RowKit Go.Maps Go.BigFrame

set_option maxRecDepth 100000 in
set_option maxHeartbeats 1600000 in
theorem adds13_any (w : World) :
    Calls Tryz.prog 26 #[] w fun e w' => e = .returned (.agg #[.slice (some ⟨w.heap.size + 1, 0, none⟩) 3 3, .slice (some ⟨w.heap.size + 6, 0, none⟩) 2 2]) ∧ AddsAt w' w.heap.size ∧ AddsR w' w.heap.size ∧ w'.heap.size = w.heap.size + 7 ∧ Below w.heap.size w w' := by
  go_enter Tryz.func26, Tryz.ntmps26
  go_wp2
  generalize hW : World.alloc _ _ = W
  have hsz : W.heap.size = w.heap.size + 7 := by rw [← hW]; simp
  have hb : Below w.heap.size w W := by
    rw [← hW]
    exact below_step (below_step (below_step (below_step (below_step (below_step (below_alloc _) (below_alloc _)) (below_alloc _)) (below_alloc _)) (below_alloc _)) (below_alloc _)) (below_alloc _)
  have k0 : W.cell? ⟨w.heap.size, 0, none⟩ = some (.slice (some ⟨w.heap.size + 1, 0, none⟩) 3 3) := by rw [← hW]; repeat (first | (refine cell_newg ?_ rfl; simp; done) | refine cell_old ?_)
  have k1 : W.cell? ⟨w.heap.size, 1, none⟩ = some (.slice (some ⟨w.heap.size + 6, 0, none⟩) 2 2) := by rw [← hW]; repeat (first | (refine cell_newg ?_ rfl; simp; done) | refine cell_old ?_)
  have hA : AddsAt W w.heap.size := by
    refine ⟨by omega, ?_, ?_, ?_, ?_, ?_⟩
    · refine sg_lit (p := sumS) (by omega) (by decide) ⟨⟨by decide, by decide, by decide, ?_, ?_⟩, ⟨by decide, by decide, by decide, ?_, ?_⟩, ⟨by decide, by decide, by decide, ?_, ?_⟩, trivial⟩ <;> (rw [← hW]; repeat (first | (refine cell_newg ?_ rfl; simp; done) | refine cell_old ?_))
    · refine is_lit (p := [2, 0, -2]) (by omega) (by decide) ⟨ei (by omega) (by omega) ?_, ei (by omega) (by omega) ?_, ei (by omega) (by omega) ?_, trivial⟩ <;> (rw [← hW]; repeat (first | (refine cell_newg ?_ rfl; simp; done) | refine cell_old ?_))
    · refine is_lit (p := [-2]) (by omega) (by decide) ⟨ei (by omega) (by omega) ?_, trivial⟩ <;> (rw [← hW]; repeat (first | (refine cell_newg ?_ rfl; simp; done) | refine cell_old ?_))
    · refine is_lit (p := [2, 1, -1, -2]) (by omega) (by decide) ⟨ei (by omega) (by omega) ?_, ei (by omega) (by omega) ?_, ei (by omega) (by omega) ?_, ei (by omega) (by omega) ?_, trivial⟩ <;> (rw [← hW]; repeat (first | (refine cell_newg ?_ rfl; simp; done) | refine cell_old ?_))
    · refine is_lit (p := [1, 2, -1, -2]) (by omega) (by decide) ⟨ei (by omega) (by omega) ?_, ei (by omega) (by omega) ?_, ei (by omega) (by omega) ?_, ei (by omega) (by omega) ?_, trivial⟩ <;> (rw [← hW]; repeat (first | (refine cell_newg ?_ rfl; simp; done) | refine cell_old ?_))
  have hR : AddsR W w.heap.size := by
    unfold AddsR
    rw [← hW]
    exact heap_newg (by simp)
  clear hW
  refine bodyPost_ret (results_one rfl rfl ?_) rfl ⟨rfl, hA, hR, hsz, hb⟩
  go_simp

theorem ex13_ahead : aheadE sumS 0 = 0 := by kernel_rfl

theorem ex13_ext : (extL sumS)[5]? = some (⟨#[112, 108, 117, 115, 35]⟩, 2) := by kernel_rfl

theorem ex13_ofE : ofE13 sumS [addR0, addR1] = 0 := by
  have h : ¬ 256 < (pairsL sumS [2] [addR0, addR1]).length := by decide +kernel
  unfold ofE13
  rw [sh7_check, sh7_defined, if_neg h]
  rfl

theorem ex13_ofL : ofL13 sumS [addR0, addR1] = [([5, 1, -1, -2], [5, -1, -2])] := by
  unfold ofL13
  rw [if_pos ex13_ofE, sh7_defined]
  decide +kernel

theorem ex13_sys : sysB sumS [addR0, addR1] = true := by kernel_rfl

theorem exit13 {t u : List Int} (h1 : standB sumS t = true) (h2 : capL (extL sumS) [2] t = u) : exitL sumS [addR0, addR1] t = u := by
  unfold exitL
  rw [if_pos h1, sh7_defined, h2]

theorem entry13 {t u : List Int} (h1 : standB sumS t = true) (h2 : movL 512 (canR t) = u) : entryL sumS t = u := by
  unfold entryL
  rw [if_pos h1, h2]

theorem ex13_a1 : exitL sumS [addR0, addR1] [5, 1, -1, 0] = [5, 1, -1, 0] := exit13 (by decide +kernel) (by decide +kernel)
theorem ex13_a2 : entryL sumS [5, 0, -1] = [5, 0, -513] := entry13 (by decide +kernel) (by decide +kernel)
theorem ex13_b1 : exitL sumS [addR0, addR1] [5, 2, 0, 0, 0] = [5, -1, 0] := exit13 (by decide +kernel) (by decide +kernel)
theorem ex13_b2 : entryL sumS [5, 1, -1, -2] = [5, 1, -513, -514] := entry13 (by decide +kernel) (by decide +kernel)
theorem ex13_c1 : exitL sumS [addR0, addR1] [5, -1, -2] = [5, -1, -2] := exit13 (by decide +kernel) (by decide +kernel)

theorem ex13_a : edgeB sumS [addR0, addR1] [5, 1, -1, 0] [5, 0, -1] = false := by
  unfold edgeB
  rw [ex13_a1, ex13_a2]
  have h : ¬ Unif (extL sumS) [5, 1, -1, 0] [5, 0, -513] := by
    rintro ⟨f, _, h⟩
    rw [laidL_cons, laidL_cons, laidL_cons f 5, laidL_cons f 0] at h
    simp [piece] at h
  unfold meetB
  simp [h]

theorem ex13_b : edgeB sumS [addR0, addR1] [5, 2, 0, 0, 0] [5, 1, -1, -2] = true := by
  unfold edgeB
  rw [ex13_b1, ex13_b2, ex13_sys]
  have h : Unif (extL sumS) [5, -1, 0] [5, 1, -513, -514] := by
    refine ⟨fun n => if n = 0 then some [1, -513] else if n = 513 then some [0] else none, fun n u hu => ?_, by decide +kernel⟩
    simp only at hu
    split at hu
    · cases hu
      decide +kernel
    · split at hu
      · cases hu
        decide +kernel
      · cases hu
  have hm : meetB (extL sumS) [5, -1, 0] [5, 1, -513, -514] = true := by
    unfold meetB
    simp only [decide_eq_true_eq]
    exact ⟨by decide +kernel, h⟩
  rw [hm]
  rfl

theorem ex13_g : graphL13 sumS [addR0, addR1] [([5, 1, -1, -2], [5, -1, -2])] = [[0]] := by
  have h : Unif (extL sumS) [5, -1, -2] [5, 1, -513, -514] := by
    refine ⟨fun n => if n = 0 then some [1, -513] else if n = 1 then some [-514] else none, fun n u hu => ?_, by decide +kernel⟩
    simp only at hu
    split at hu
    · cases hu
      decide +kernel
    · split at hu
      · cases hu
        decide +kernel
      · cases hu
  have hm : meetB (extL sumS) (exitL sumS [addR0, addR1] [5, -1, -2]) (entryL sumS [5, 1, -1, -2]) = true := by
    rw [ex13_c1, ex13_b2]
    unfold meetB
    simp only [decide_eq_true_eq]
    exact ⟨by decide +kernel, h⟩
  unfold graphL13
  rw [if_pos ex13_sys, List.map_cons, List.map_nil]
  have e := rowK13_at (sig := sumS) (rs := [addR0, addR1]) (l := [([5, 1, -1, -2], [5, -1, -2])]) (p := ([5, 1, -1, -2], [5, -1, -2])) (k := 0) (q := ([5, 1, -1, -2], [5, -1, -2])) rfl
  rw [if_pos hm] at e
  exact congrArg (fun x => [x]) e

end Go.Proofs.YtoapgbaibpkckaaGreatDoor

/- The examples of layer 13 come out true. -/
namespace Go.Proofs.YtoapgbaibpkckaaGreatDoor
open Go.RowKit Go.Maps Go.BigFrame

set_option maxHeartbeats 400000 in
theorem sameRow13_any (v u : Value) (xs ys : List Int) (w : World) (h : Is w v xs) (h' : Is w u ys) :
    Calls Tryz.prog 19 #[v, u] w fun e w' => e = .returned (.bool (decide (xs = ys))) ∧ ∃ n, w' = w.drewN n := by
  obtain ⟨ao, cap, rfl, hao, hca, hcl⟩ := h.flatI
  obtain ⟨bo, cap', rfl, hbo, hcb, hcl'⟩ := h'.flatI
  clear h h'
  by_cases hl : xs.length = ys.length
  · have hle : ((xs.length : Int) != ys.length) = false := by simp; omega
    go_enter Tryz.func19, Tryz.ntmps19
    go_wp2
    go_loopw [5] (fun i wr => ∃ k : Nat, k ≤ xs.length ∧ i = .int .i64 k ∧ xs.take k = ys.take k ∧ ∃ n, wr = w.drewN n) (fun i _ => xs.length - (intOf i).toNat)
    case atStart => exact ⟨0, Nat.zero_le _, rfl, rfl, 0, rfl⟩
    case round =>
      obtain ⟨k, hk, rfl, ht, n, rfl⟩ := hrel
      have HT : Hid (xs.take k = ys.take k) := ht
      clear ht
      by_cases hlt : k < xs.length
      · obtain ⟨g, off, x, rfl, hx1, hx3⟩ := hcl k hlt
        obtain ⟨g', off', y, rfl, hy1, hy3⟩ := hcl' k (by omega)
        have HX : Hid (xs[k]? = some x) := hx1
        have HY : Hid (ys[k]? = some y) := hy1
        have hlt' : k < ys.length := by omega
        clear hx1 hy1 hcl hcl'
        by_cases hxy : x = y
        · subst hxy
          have hxx : (x != x) = false := by simp
          go_wp2
          go_quiet (fail)
          go_wp2
          go_roundw
          case rel => exact ⟨k + 1, by omega, by go_num, by rw [take_get HX.out, take_get HY.out, HT.out], _, rfl⟩
          case measure => simp [intOf]; omega
        · have hne : (x != y) = true := by rw [bne_iff_ne]; exact hxy
          go_wp2
          go_quiet (fail)
          go_wp2
          go_ret
          exact ⟨ret1b (by rw [eq_comm, decide_eq_false_iff_not]; rintro rfl; have := HX.out.symm.trans HY.out; simp at this; exact hxy this), _, World.drewN_drewN _ _ _⟩
      · have hk' : k = xs.length := by omega
        go_wp2
        go_ret
        refine ⟨ret1b ?_, n, rfl⟩
        have := HT.out
        rw [List.take_of_length_le (by omega), List.take_of_length_le (by omega)] at this
        simp [this]
  · have hle : ((xs.length : Int) != ys.length) = true := by rw [bne_iff_ne]; omega
    go_enter Tryz.func19, Tryz.ntmps19
    go_wp2
    go_ret
    exact ⟨ret1b (by rw [eq_comm, decide_eq_false_iff_not]; rintro rfl; exact hl rfl), 0, rfl⟩


set_option maxRecDepth 100000 in
set_option maxHeartbeats 25600000 in
theorem shown13_any (w : World) (hT : Tabs w) :
    Calls Tryz.prog 9 #[] w fun e w' => e = .returned (.bool true) ∧ Below w.heap.size w w' := by
  have HT := hid hT
  clear hT
  go_enter Tryz.func9, Tryz.ntmps9
  go_wp2_with fail
  refine (adds13_any w).mono ?_
  rintro e w1 ⟨rfl, hA1, hR1, hs1, hb1⟩
  obtain ⟨W1, hW1⟩ : ∃ X, X = w1.alloc (.cells #[.slice (some ⟨w.heap.size + 1, 0, none⟩) 3 3, .slice (some ⟨w.heap.size + 6, 0, none⟩) 2 2] 32) := ⟨_, rfl⟩
  have C1 : Hid (Below w.heap.size w W1) := by rw [hW1]; exact below_step hb1 (below_alloc _)
  have HS1 : Hid (∀ W, Below W1.heap.size W1 W → (W.cell? ⟨w1.heap.size, 0, none⟩ = some (.slice (some ⟨w.heap.size + 1, 0, none⟩) 3 3) ∧ W.cell? ⟨w1.heap.size, 1, none⟩ = some (.slice (some ⟨w.heap.size + 6, 0, none⟩) 2 2)) ∧ Sg W (.slice (some ⟨w.heap.size + 1, 0, none⟩) 3 3) sumS ∧ RU W (.slice (some ⟨w.heap.size + 6, 0, none⟩) 2 2) [addR0, addR1] ∧ Tabs W ∧ Below w.heap.size w W) := fun W hW => by
    have hk := Kp.of_below hW
    rw [hW1] at hk
    have hk1 := (Kp.of_below (below_alloc (w := w1) (.cells #[.slice (some ⟨w.heap.size + 1, 0, none⟩) 3 3, .slice (some ⟨w.heap.size + 6, 0, none⟩) 2 2] 32))).trans hk
    exact ⟨⟨hk.cell _ _ (cell_new rfl), hk.cell _ _ (cell_new rfl)⟩, hA1.sig.kp hk1, (adds_ru hA1 hR1).kp hk1, HT.out.below (below_step C1.out hW), below_step C1.out hW⟩
  clear hA1 hR1 hs1 hb1
  go_wp2_with fail
  rw [← hW1]
  clear hW1
  generalize w.heap.size + 1 = gs at HS1 ⊢
  generalize w.heap.size + 6 = gr at HS1 ⊢
  generalize w1.heap.size = gb at HS1 ⊢
  clear C1
  obtain ⟨⟨x0, x1⟩, i0, i1, iT, _⟩ := HS1.out W1 (Below.refl _ _)
  have HEx := hid (extend_any _ sumS W1 i0 iT)
  clear i0 i1 iT
  go_wp2_with fail
  refine HEx.out.mono ?_
  rintro e w2 ⟨xv, rfl, ox, hb2⟩
  rw [ex13_ahead] at ox ⊢
  rw [if_pos rfl] at ox
  have D2 := hid hb2
  obtain ⟨xo, xc, hxv, _, _⟩ := ox.shape
  rw [show (extL sumS).length = 6 by kernel_rfl] at hxv
  subst hxv
  have HOx := hid ox.sg
  clear ox hb2 x0 x1
  obtain ⟨⟨x0, x1⟩, i0, i1, iT, _⟩ := HS1.out w2 D2.out
  have HOf := hid (of13_any _ _ sumS [addR0, addR1] w2 i0 i1 iT)
  clear i0 i1 iT
  go_wp2_with fail
  refine HOf.out.mono ?_
  rintro e w3 ⟨lv, vs, rfl, hpa⟩
  rw [ex13_ofE]
  rw [ex13_ofL] at hpa
  have D3 := hid (below_step D2.out hpa.bel)
  have HOf5 := hid hpa.bel
  have hrl := hpa.ru (fun r hr => by simp at hr; subst hr; simp)
  obtain ⟨lo, lc, hlv, _, _⟩ := hpa.shape
  rw [show ([(([5, 1, -1, -2], [5, -1, -2]) : Rl)]).length = 1 from rfl] at hlv
  subst hlv
  have HRl := hid hrl
  clear hrl hpa x0 x1
  obtain ⟨⟨x0, x1⟩, i0, i1, iT, _⟩ := HS1.out w3 D3.out
  have HGr := hid (graph13_any _ _ _ sumS [addR0, addR1] _ w3 i0 i1 HRl.out iT (by simp) (fun p hp => by simp at hp; subst hp; simp))
  clear i0 i1 iT
  go_wp2_with fail
  refine HGr.out.mono ?_
  rintro e w4 ⟨gv, rfl, hrs, hb4⟩
  rw [ex13_g] at hrs
  obtain ⟨go, gc, rfl, _, _, g3⟩ := hrs
  obtain ⟨gg, goo, rfl, _, gcell⟩ := g3 (by decide)
  obtain ⟨_, u, hu, hiu⟩ := gcell 0 [0] rfl
  obtain ⟨au, cu, rfl, _, _, _⟩ := Row.flat hiu
  obtain ⟨ug, uo, c, rfl, hc, hcx, _, _⟩ := hiu.at (k := 0) (by decide)
  cases hc
  have D4 := hid (below_step D3.out hb4)
  obtain ⟨lg, loff, a, b, a1, c1, a2, c2, rfl, hm, hc0, hc1, hi1, hi2, _, _⟩ := HRl.out.at (k := 0) (by decide)
  cases hm
  have hc0 := (Kp.of_below hb4).cell _ _ hc0
  have hc1 := (Kp.of_below hb4).cell _ _ hc1
  have HI1 := hid (hi1.kp (Kp.of_below hb4))
  have HI2 := hid (hi2.kp (Kp.of_below hb4))
  have HX4 := hid (HOx.out.kp (Kp.of_below (below_step HOf5.out hb4)))
  simp only [Nat.zero_mul, Nat.add_zero] at hc0 hc1 hu hcx
  have HC1 := hid hc1
  have HU := hid hu
  have HCx := hid hcx
  have HG45 : Hid (Below w4.heap.size w4 w4) := Below.refl _ _
  clear g3 gcell hiu hi1 hi2 hb4 x0 x1 hc1 hu hcx
  obtain ⟨wa, hwa⟩ : ∃ X, X = w4.alloc (.cells #[.int .i64 5, .int .i64 1, .int .i64 (-1), .int .i64 (-2)] 3) := ⟨_, rfl⟩
  have bwa : Hid (Below w4.heap.size w4 wa) := by rw [hwa]; exact below_alloc _
  have iwa : Hid (Is wa (.slice (some ⟨w4.heap.size, 0, none⟩) 4 4) [5, 1, -1, -2]) := by rw [hwa]; exact is_new w4 [5, 1, -1, -2] 3 (by decide) (by decide)
  go_wp2_with fail
  rw [← hwa]
  clear hwa hc0
  refine (sameRow13_any _ _ _ _ wa (HI1.out.kp (Kp.of_below bwa.out)) iwa.out).mono ?_
  rintro e w5 ⟨rfl, n5, hw5⟩
  have b5 := hid (drawn_below hw5)
  have E5 := hid (below_step bwa.out b5.out)
  clear hw5
  have hc1 := (Kp.of_below (below_step HG45.out E5.out)).cell _ _ HC1.out
  obtain ⟨wb, hwb⟩ : ∃ X, X = w5.alloc (.cells #[.int .i64 5, .int .i64 (-1), .int .i64 (-2)] 3) := ⟨_, rfl⟩
  have bwb : Hid (Below w5.heap.size w5 wb) := by rw [hwb]; exact below_alloc _
  have iwb : Hid (Is wb (.slice (some ⟨w5.heap.size, 0, none⟩) 3 3) [5, -1, -2]) := by rw [hwb]; exact is_new w5 [5, -1, -2] 3 (by decide) (by decide)
  go_wp2_with fail
  rw [← hwb]
  clear hwb hc1
  refine (sameRow13_any _ _ _ _ wb (HI2.out.kp (Kp.of_below (below_step E5.out bwb.out))) iwb.out).mono ?_
  rintro e w6 ⟨rfl, n6, hw6⟩
  have E6 := hid (below_step E5.out (below_step bwb.out (drawn_below hw6)))
  clear hw6
  obtain ⟨vaa, hvaa⟩ : ∃ X, X = w6.alloc (.cells #[.int .i64 5, .int .i64 1, .int .i64 (-1), .int .i64 0] 3) := ⟨_, rfl⟩
  have bvaa : Hid (Below w6.heap.size w6 vaa) := by rw [hvaa]; exact below_alloc _
  have ivaa : Hid (Is vaa (.slice (some ⟨w6.heap.size, 0, none⟩) 4 4) [5, 1, -1, 0]) := by rw [hvaa]; exact is_new w6 [5, 1, -1, 0] 3 (by decide) (by decide)
  obtain ⟨vab, hvab⟩ : ∃ X, X = vaa.alloc (.cells #[.int .i64 5, .int .i64 0, .int .i64 (-1)] 3) := ⟨_, rfl⟩
  have bvab : Hid (Below vaa.heap.size vaa vab) := by rw [hvab]; exact below_alloc _
  have ivab : Hid (Is vab (.slice (some ⟨vaa.heap.size, 0, none⟩) 3 3) [5, 0, -1]) := by rw [hvab]; exact is_new vaa [5, 0, -1] 3 (by decide) (by decide)
  have svaa : vaa.heap.size = w6.heap.size + 1 := by rw [hvaa, World.size_alloc]
  rw [svaa] at ivab
  clear svaa
  have Fva := hid (below_step E6.out (below_step bvaa.out bvab.out))
  obtain ⟨⟨x0, x1⟩, _⟩ := HS1.out w6 (below_step D4.out E6.out)
  obtain ⟨_, i0, i1, iT, _⟩ := HS1.out vab (below_step D4.out Fva.out)
  have Hva := hid (edge_any _ _ (.slice none 0 0) _ _ (.slice none 0 0) sumS [addR0, addR1] [] [5, 1, -1, 0] [5, 0, -1] [] vab i0 i1 (Row.nil (by simp [maxLen])) (ivaa.out.kp (Kp.of_below bvab.out)) ivab.out (Row.nil (by simp [maxLen])) iT (by simp) (by simp))
  clear i0 i1 iT
  go_wp2_with fail
  rw [← hvaa, ← hvab]
  clear hvaa hvab x0 x1
  refine Hva.out.mono ?_
  rintro e vaz ⟨rfl, hbva⟩
  rw [ex13_a]
  have Eva := hid (below_step Fva.out hbva)
  clear hbva
  obtain ⟨vba, hvba⟩ : ∃ X, X = vaz.alloc (.cells #[.int .i64 5, .int .i64 2, .int .i64 0, .int .i64 0, .int .i64 0] 3) := ⟨_, rfl⟩
  have bvba : Hid (Below vaz.heap.size vaz vba) := by rw [hvba]; exact below_alloc _
  have ivba : Hid (Is vba (.slice (some ⟨vaz.heap.size, 0, none⟩) 5 5) [5, 2, 0, 0, 0]) := by rw [hvba]; exact is_new vaz [5, 2, 0, 0, 0] 3 (by decide) (by decide)
  obtain ⟨vbb, hvbb⟩ : ∃ X, X = vba.alloc (.cells #[.int .i64 5, .int .i64 1, .int .i64 (-1), .int .i64 (-2)] 3) := ⟨_, rfl⟩
  have bvbb : Hid (Below vba.heap.size vba vbb) := by rw [hvbb]; exact below_alloc _
  have ivbb : Hid (Is vbb (.slice (some ⟨vba.heap.size, 0, none⟩) 4 4) [5, 1, -1, -2]) := by rw [hvbb]; exact is_new vba [5, 1, -1, -2] 3 (by decide) (by decide)
  have svba : vba.heap.size = vaz.heap.size + 1 := by rw [hvba, World.size_alloc]
  rw [svba] at ivbb
  clear svba
  have Fvb := hid (below_step Eva.out (below_step bvba.out bvbb.out))
  obtain ⟨⟨x0, x1⟩, _⟩ := HS1.out vaz (below_step D4.out Eva.out)
  obtain ⟨_, i0, i1, iT, _⟩ := HS1.out vbb (below_step D4.out Fvb.out)
  have Hvb := hid (edge_any _ _ (.slice none 0 0) _ _ (.slice none 0 0) sumS [addR0, addR1] [] [5, 2, 0, 0, 0] [5, 1, -1, -2] [] vbb i0 i1 (Row.nil (by simp [maxLen])) (ivba.out.kp (Kp.of_below bvbb.out)) ivbb.out (Row.nil (by simp [maxLen])) iT (by simp) (by simp))
  clear i0 i1 iT
  go_wp2_with fail
  rw [← hvba, ← hvbb]
  clear hvba hvbb x0 x1
  refine Hvb.out.mono ?_
  rintro e vbz ⟨rfl, hbvb⟩
  rw [ex13_b]
  have Evb := hid (below_step Fvb.out hbvb)
  clear hbvb
  have hu := (Kp.of_below Evb.out).cell _ _ HU.out
  have hcx := (Kp.of_below Evb.out).cell _ _ HCx.out
  obtain ⟨xo', xc', exo, _, _, q9⟩ := Row.flat (HX4.out.kp (Kp.of_below Evb.out))
  simp only [Value.slice.injEq] at exo
  obtain ⟨rfl, _, rfl⟩ := exo
  obtain ⟨xg, xoff, y, rfl, hy, _, _, _, q0, q1⟩ := q9 5 (by rw [show (extL sumS).length = 6 by kernel_rfl]; decide)
  rw [ex13_ext] at hy
  cases hy
  simp only at q0 q1
  clear q9
  go_wp2
  go_ret
  exact ⟨by first | rfl | simp, (HS1.out _ (below_step D4.out Evb.out)).2.2.2.2⟩

end Go.Proofs.YtoapgbaibpkckaaGreatDoor
