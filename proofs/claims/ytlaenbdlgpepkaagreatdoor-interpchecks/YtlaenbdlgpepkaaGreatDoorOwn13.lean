/- Texts of the proof, one behind the other. -/
import Derived.Test.YtlaenbdlgpepkaaGreatDoorOwn12
import Derived.Test.YtlaenbdlgpepkaaGreatDoorOwn4
import Derived.Test.YtlaenbdlgpepkaaGreatDoorOwn5
import Derived.Sort.QuietTacIn
import Derived.Sort.CutIn
import Derived.Deep.DeepAppendRoom
import Derived.Test.YtlaenbdlgpepkaaGreatDoorOwn3
import Derived.Ground.NamesProg
import Derived.Shelf.Lay
import Derived.Shelf.Sort.Plain
import Derived.Shelf.Slices.In.SortNone
import Derived.Sort.OwnSortedInts
import Derived.Deep.LoopGhost
import Derived.Shelf.Abstract
import Derived.Lib.AppendZeros
import Derived.Test.YtlaenbdlgpepkaaGreatDoorOwn9
/- Package interp's (meaning).of. -/
namespace Go.Proofs.YtlaenbdlgpepkaaGreatDoor
open Go.RowKit Go.Maps Go.BigFrame

theorem ofS_short {sig : List Sy} {sp vp : Int → List Mn} : ∀ {u : List Int} {st : List (List Mn)}, ofS sig sp vp u = some st → st.length ≤ u.length
  | [], st, h => by cases h; simp
  | c :: u, st, h => by
    cases hu : ofS sig sp vp u with
    | none => rw [ofS_none hu] at h; cases h
    | some s =>
      have ih := ofS_short hu
      by_cases hc : c < 0
      · rw [ofS_var hu hc] at h
        cases h
        simp only [List.length_cons]
        omega
      · by_cases h0 : compE (sp c) (s.take (arN sig c)) = 0
        · rw [ofS_yes hu hc h0] at h
          cases h
          simp only [List.length_cons, List.length_drop]
          omega
        · rw [ofS_no hu hc h0] at h; cases h

/-- A piece of a row, with a bound on its room. -/
theorem run_cut3 {g n lo hi : Nat} (h1 : lo ≤ hi) (h2 : hi ≤ n) : ∃ ao : Option Addr, (0 < hi - lo → ao = some ⟨g, lo, none⟩) ∧
    ∀ w : World, (Instr.slice 49 (.slice (some ⟨g, 0, none⟩) n n) (some (.int .i64 (lo : Int))) (some (.int .i64 (hi : Int))) (some (.int .i64 (hi : Int)))).run Tryz.prog w = .ok (.slice ao (hi - lo) (hi - lo)) w := by
  by_cases h : hi = lo
  · subst h
    refine ⟨some ⟨g, 0, none⟩, fun h => absurd h (by omega), fun w => ?_⟩
    simp [Instr.slice, run_underlying under_polys, Instr.sliceBounds, go_sem]
    intro h
    omega
  · refine ⟨some ⟨g, lo, none⟩, fun _ => rfl, fun w => ?_⟩
    simp [Instr.slice, run_underlying under_polys, Instr.sliceBounds, go_sem]
    rw [if_pos h2, if_pos h1, if_neg h]

theorem VM.get {w : World} {base b : Nat} {vs : List Int} {c : Int} (h : VM w base b vs vs.length) (hn : vs.Nodup) (hc : -1 - c ∈ vs) : ∃ L u, MapV w b L ∧ L.lookup c = some u ∧ OM w base u (vAt vs c) := by
  obtain ⟨L, m1, m2, m3, m4⟩ := h
  have h1 := idx_get hc
  have h2 := m4 _ _ (List.getElem?_eq_some_iff.1 h1).1 h1
  rw [show -1 - (-1 - c) = c by omega] at h2
  obtain ⟨u, hu⟩ := Option.isSome_iff_exists.1 h2
  obtain ⟨i, i1, i2, i3⟩ := m3 _ _ hu
  refine ⟨L, u, m1, hu, ?_⟩
  unfold vAt
  rw [idx_of hn i2]
  exact i3

set_option maxRecDepth 100000 in
set_option maxHeartbeats 6400000 in
theorem meaningOf_any (sv tv : Value) (sig : List Sy) (l : List Ip) (vs t : List Int) (base gS b : Nat) (w : World) (hs : Sg w sv sig) (ht : Is w tv t) (hM : MgM w base gS b sig l vs) (hbase : base ≤ w.heap.size) (hin : inE sig l = 0) (hL : ∀ x ∈ l, ∀ m ∈ x.2, Lim m.1) (hrow : rowE sig t = 0) (hvs : ∀ c ∈ t, c < 0 → (-1 - c) ∈ vs) (hnd : vs.Nodup) (hsm : vs.length ≤ 512) (hb : t.length * 24 ≤ 140737488355328) :
    Calls Tryz.prog 47 #[.agg #[sv, .slice (some ⟨gS, 0, none⟩) sig.length sig.length, .map (some b)], tv] w fun e w' =>
      (∃ v', e = .returned (.tuple #[v', .int .i64 (ovE (ofV sig l vs t))]) ∧ OM w' base v' (ovL (ofV sig l vs t))) ∧ Below w.heap.size w w' := by
  obtain ⟨so, sc, rfl, hso, hsc, _⟩ := Row.flat hs
  obtain ⟨ta, tc, rfl, hto, htc, _⟩ := Row.flat ht
  unfold maxLen at hsc htc
  have hsig := (inE_ok hin).1
  have hAr := sigE_ok hsig
  have HAr := hid hAr
  have HFirst := hid (row_first.1 hrow)
  have HSp : Hid (∀ c : Int, 0 ≤ c → c.toNat < sig.length → Ch (spol l c) ∧ varsN (spol l c) ≤ arN sig c) := fun c h0 h1 => (in_spol hin hL h0 h1).2
  have HVp : Hid (∀ c ∈ t, c < 0 → Ch (vAt vs c)) := fun c hc h0 => by
    unfold vAt
    have h1 := idx_get (hvs c hc h0)
    have h2 := (List.getElem?_eq_some_iff.1 h1).1
    exact vpol_ch (by omega)
  have HOne := ofS_one (sp := spol l) (vp := vAt vs) hAr hrow
  have HOv : Hid (∀ p, ofS sig (spol l) (vAt vs) t = some [p] → ofV sig l vs t = some p) := fun p h => ofV_some hsm h
  have HS := hid hs
  have HT := hid ht
  have HMg := hid hM
  have HVs := hid hvs
  have HNd := hid hnd
  have htp : 0 < t.length := by
    cases t with
    | nil => simp [rowE, firstT] at hrow
    | cons c u => simp
  have HOne2 := hid HOne
  clear hs ht hM hin hL hrow hvs hnd HOne hsig hAr
  obtain ⟨W0, hW0⟩ : ∃ X, X = w.alloc (.cells #[.slice so sig.length sc, .slice (some ⟨gS, 0, none⟩) sig.length sig.length, .map (some b)] 85) := ⟨_, rfl⟩
  have B0 : Hid (Below w.heap.size w W0) := by rw [hW0]; exact below_alloc _
  have C0 : Hid (MC W0 w.heap.size (.slice so sig.length sc) gS sig.length b) := by rw [hW0]; exact hid (heap_alloc_new _ _)
  have hmk := run_make_polys W0 t.length (by omega)
  obtain ⟨W1, hW1⟩ : ∃ X, X = W0.alloc (.cells (List.replicate t.length (Value.slice none 0 0)).toArray 31) := ⟨_, rfl⟩
  have B1 : Hid (Below W0.heap.size W0 W1) := by rw [hW1]; exact below_alloc _
  have V1 : Hid (VB W1 W0.heap.size (List.replicate t.length (Value.slice none 0 0))) := by rw [hW1]; exact hid (heap_alloc_new _ _)
  rw [← hW1] at hmk
  clear hW1
  go_enter Tryz.func47, Tryz.ntmps47
  go_upto_region 1 with fail
  rw [← hW0]
  clear hW0
  have C1 := hid (C0.out.later B1.out)
  have BW := hid (below_step B0.out B1.out)
  have hgL : w.heap.size ≤ W0.heap.size := B0.out.size
  go_upto_region 3 with fail
  clear hmk B0 B1 C0
  generalize W0.heap.size = gL at V1 hgL ⊢
  generalize hgm : w.heap.size = gm at C1 ⊢
  have HGm := hid hgm
  clear hgm
  go_wp2
  go_loopw [7, 8] (fun x y wr => ∃ (k tp : Nat) (st : List (List Mn)) (vals : List Value), k ≤ t.length ∧ y = .int .i64 ((k : Int) - 1) ∧ x = .int .i64 (tp : Int) ∧ tp + st.length = t.length ∧ ofS sig (spol l) (vAt vs) (t.drop k) = some st ∧ VB wr gL vals ∧ vals.length = t.length ∧ (∀ (i : Nat) p, st[i]? = some p → ∃ u, vals[tp + i]? = some u ∧ OM wr base u p) ∧ MC wr gm (.slice so sig.length sc) gS sig.length b ∧ Below w.heap.size w wr) (fun _ y _ => (intOf y + 1).toNat)
  case atStart => exact ⟨t.length, t.length, [], _, Nat.le_refl _, rfl, rfl, by simp, by rw [List.drop_length]; rfl, V1.out, by simp, fun i p h => (by simp at h), C1.out, BW.out⟩
  case round =>
    clear V1 C1 BW
    obtain ⟨k, tp, st, vals, hk, hy, rfl, htl, hof, hvb, hvl, hst, hmc, hbl⟩ := hrel
    have HOf := hid hof
    have HVB := hid hvb
    have HVl := hid hvl
    have HSt := hid hst
    have HMC := hid hmc
    have BL := hid hbl
    have hsh := ofS_short hof
    rw [List.length_drop] at hsh
    clear hof hvb hvl hst hmc hbl
    cases k with
    | zero =>
      have hy0 : u8 = .int .i64 (-1) := hy
      subst hy0
      clear hy
      have hof := HOf.out
      rw [List.drop_zero] at hof
      obtain ⟨p, hp⟩ : ∃ p, st = [p] := by
        rcases HOne2.out with h | ⟨p, h⟩
        · rw [h] at hof; cases hof
        · rw [h] at hof; cases hof; exact ⟨p, rfl⟩
      subst hp
      obtain ⟨u, hu1, hu2⟩ := HSt.out 0 p rfl
      rw [Nat.add_zero] at hu1
      have HR : Hid (ofV sig l vs t = some p) := by exact HOv.out p hof
      have y0 := HVB.out.cell hu1
      have htl2 : tp < t.length := by simp at htl; omega
      obtain ⟨ua, uc, hua⟩ := hu2.slice
      subst hua
      have HO := hid hu2
      clear hof hu1 hu2 htl HSt
      go_wp2
      go_ret2
      rw [HR.out]
      exact ⟨⟨_, rfl, HO.out⟩, BL.out⟩
    | succ j =>
      have hyj : u8 = .int .i64 (j : Int) := by rw [hy]; congr 1; omega
      subst hyj
      clear hy
      have hjt : j < t.length := hk
      obtain ⟨g, off, c, rfl, hc1, hc2, hc3, hc4⟩ := HT.out.at hjt
      have hct := (Kp.of_below BL.out).cell _ _ hc2
      have hmem : c ∈ t := List.mem_of_getElem? hc1
      have HSpl : Hid (t = t.take j ++ c :: t.drop (j + 1)) := by show _ = _; rw [← drop_get hc1, List.take_append_drop]
      have HDr : Hid (t.drop j = c :: t.drop (j + 1)) := hid (drop_get hc1)
      have HF2 : Hid (firstT sig 1 0 (t.take j ++ c :: t.drop (j + 1)) = (((t.take j ++ c :: t.drop (j + 1)).length : Int), 0)) := by show _ = _; rw [← HSpl.out]; exact HFirst.out
      have htp1 : 1 ≤ tp := by omega
      obtain ⟨q, rfl⟩ : ∃ q, tp = q + 1 := ⟨tp - 1, by omega⟩
      clear hc1 hc2 htp1
      by_cases hneg : c < 0
      · obtain ⟨L, u, hm, hlk, hou⟩ := (HMg.out.var.later BL.out).get HNd.out (HVs.out c hmem hneg)
        obtain ⟨ua, uc, hua⟩ := hou.slice
        subst hua
        have hrun := hm.lookOne under_vmap (zero_monos wr) hc3 hc4 hlk
        have y2 := HMC.out.cells.2.2
        have hq : q < vals.length := by rw [HVl.out]; omega
        have hcq := HVB.out.cell (List.getElem?_eq_getElem hq)
        have hfr := HVB.out.frozen q
        have HO := hid hou
        have HNew : Hid (ofS sig (spol l) (vAt vs) (t.drop j) = some (vAt vs c :: st)) := by show _ = _; rw [HDr.out]; exact ofS_var HOf.out hneg
        have hql : q < t.length := by omega
        have htl2 : q + (st.length + 1) = t.length := by omega
        have HTl := hid htl2
        clear hm hlk hou hmem hsh htl htl2
        go_wp2
        go_roundw
        case rel =>
          refine ⟨j, q, vAt vs c :: st, _, by omega, by go_num, rfl, HTl.out, HNew.out, HVB.out.set _ _, by rw [List.length_set]; exact HVl.out, fun i p hi => ?_, HMC.out.setVB HVB.out, BL.out.setCell (p := ⟨gL, q, none⟩) (by rw [← HGm.out] at *; exact hgL) _⟩
          cases i with
          | zero =>
            simp at hi
            subst hi
            exact ⟨_, by rw [Nat.add_zero, List.getElem?_set_self hq], HO.out.setVB HVB.out⟩
          | succ i =>
            rw [List.getElem?_cons_succ] at hi
            obtain ⟨x, x1, x2⟩ := HSt.out i p hi
            refine ⟨x, ?_, x2.setVB HVB.out⟩
            rw [List.getElem?_set_ne (by omega), ← x1]
            congr 1
            omega
        case measure => simp [intOf] <;> omega
      · obtain ⟨ci, rfl⟩ := Int.eq_ofNat_of_zero_le (Int.not_lt.1 hneg)
        obtain ⟨k1, k2, k3⟩ := ofS_big HAr.out HSp.out HF2.out (fun d hd h0 => HVp.out d (List.mem_of_mem_drop hd) h0) HOf.out hneg
        rw [Int.toNat_natCast] at k1
        obtain ⟨gs, os, sn, ar, rfl, hsm2, _, hsa, hal, hau, _⟩ := HS.out.at k1
        have har := HAr.out _ (List.mem_of_getElem? hsm2)
        simp only at har
        obtain ⟨an, rfl⟩ := Int.eq_ofNat_of_zero_le har.1
        have hAn : arN sig (ci : Int) = an := by unfold arN; rw [Int.toNat_natCast, hsm2]; rfl
        rw [hAn] at k2 k3
        have HAn := hid hAn
        have x2 := (Kp.of_below BL.out).cell _ _ hsa
        have y0 := HMC.out.cells.1
        have y1 := HMC.out.cells.2.1
        have hbn : q + 1 + an ≤ t.length := by omega
        have hcn : decide ((ci : Int) < 0) = false := decide_eq_false (by omega)
        clear hAn hsm2 hsa hal hau hmem hneg har
        go_upto_region 11 with fail
        clear hct x2 y0
        obtain ⟨pv, hpv1, hpv2⟩ : ∃ u, (∃ vals2, VB wr gS vals2 ∧ vals2[ci]? = some u) ∧ Ms wr u (spol l (ci : Int)) := by
          obtain ⟨vals2, v1, _, v3⟩ := HMg.out.sym
          obtain ⟨u, u1, u2⟩ := v3 ci k1
          exact ⟨u, ⟨vals2, v1.later BL.out, u1⟩, u2.kp (Kp.of_below BL.out)⟩
        obtain ⟨vals2, v1, v2⟩ := hpv1
        obtain ⟨a1, c1, rfl, hp1, hp2, _⟩ := Row.flat hpv2
        unfold maxLen at hp2
        have y3 := v1.cell v2
        obtain ⟨ao, hao, hsl⟩ := run_cut3 (g := gL) (n := t.length) (lo := q + 1) (hi := q + 1 + an) (by omega) hbn
        rw [show q + 1 + an - (q + 1) = an by omega] at hao hsl
        have HPs : Hid (Ps wr (.slice ao an an) (st.take an)) := by
          by_cases h0 : an = 0
          · subst h0
            exact hid (Row.nil (by unfold maxLen; omega))
          · rw [hao (by omega)]
            refine hid (HVB.out.ps (by rw [List.length_take, Nat.min_eq_left k2]) (Nat.le_refl _) (by unfold maxLen; omega) (fun i p hi => ?_))
            rw [List.getElem?_take] at hi
            split at hi
            · obtain ⟨x, x1, x2⟩ := HSt.out i p hi
              exact ⟨x, x1, x2.ms⟩
            · cases hi
        have HPv := hid hpv2
        have HSl : Hid (∀ w : World, (Instr.slice 49 (.slice (some ⟨gL, 0, none⟩) t.length t.length) (some (.int .i64 ((q : Int) + 1))) (some (.int .i64 ((q : Int) + 1 + (an : Int)))) (some (.int .i64 ((q : Int) + 1 + (an : Int))))).run Tryz.prog w = .ok (.slice ao an an) w) := fun w => by
          have h9 := hsl w
          rw [show ((q + 1 + an : Nat) : Int) = (q : Int) + 1 + (an : Int) by omega, show ((q + 1 : Nat) : Int) = (q : Int) + 1 by omega] at h9
          exact h9
        clear hpv2 hsl hao v1 v2
        have hS : Kp wr wr.drew := Kp.of_below (drawn_belowI wr)
        refine wp_region_held_drew (S := fun w' => Kp wr w') (by kernel_rfl) hS (fun _ => ?_)
        obtain ⟨W0, hW0⟩ : ∃ X, X = wr.drew := ⟨_, rfl⟩
        have bW0 : Below wr.heap.size wr W0 := by rw [hW0]; exact drawn_belowI wr
        rw [← hW0] at hS ⊢
        clear hW0
        refine wpAnyH_take (i := 0) (v := .pointer (some ⟨gm, 1, none⟩)) rfl (by kernel_rfl) (by kernel_rfl) (by kernel_rfl) (fun _ _ _ h => h) (Or.inl ⟨by rfl, fun w' h => by go_simp⟩) hS ?_
        try simp only [Act.put, List.setIfInBounds_toArray]
        refine wpAnyH_take (i := 1) (v := .slice (some ⟨gS, 0, none⟩) sig.length sig.length) rfl (by kernel_rfl) (by kernel_rfl) (by kernel_rfl) (fun _ _ _ h => h) (Or.inl ⟨by rfl, fun w' h => by have hh := h.cell _ _ y1; go_simp⟩) hS ?_
        try simp only [Act.put]
        refine wpAnyH_take (i := 2) (v := .int .i64 (ci : Int)) rfl (by kernel_rfl) (by kernel_rfl) (by kernel_rfl) (fun _ _ _ h => h) (Or.inl ⟨by rfl, fun w' h => by go_simp⟩) hS ?_
        try simp only [Act.put]
        refine wpAnyH_take (i := 3) (v := .pointer (some ⟨gS, ci, none⟩)) rfl (by kernel_rfl) (by kernel_rfl) (by kernel_rfl) (fun _ _ _ h => h) (Or.inl ⟨by rfl, fun w' h => by go_simp⟩) hS ?_
        try simp only [Act.put]
        refine wpAnyH_take (i := 4) (v := .slice a1 (spol l (ci : Int)).length c1) rfl (by kernel_rfl) (by kernel_rfl) (by kernel_rfl) (fun _ _ _ h => h) (Or.inl ⟨by rfl, fun w' h => by have hh := h.cell _ _ y3; go_simp⟩) hS ?_
        try simp only [Act.put]
        refine wpAnyH_take (i := 5) (v := .slice (some ⟨gL, 0, none⟩) t.length t.length) rfl (by kernel_rfl) (by kernel_rfl) (by kernel_rfl) (fun _ _ _ h => h) (Or.inl ⟨by rfl, fun w' h => by go_simp⟩) hS ?_
        try simp only [Act.put]
        refine wpAnyH_take (i := 6) (v := .int .i64 ((q : Int) + 1)) rfl (by kernel_rfl) (by kernel_rfl) (by kernel_rfl) (fun _ _ _ h => h) (Or.inl ⟨by rfl, fun w' h => by go_simp⟩) hS ?_
        try simp only [Act.put]
        refine wpAnyH_take (i := 7) (v := .int .i64 ((q : Int) + 1 + (an : Int))) rfl (by kernel_rfl) (by kernel_rfl) (by kernel_rfl) (fun _ _ _ h => h) (Or.inl ⟨by rfl, fun w' h => by go_simp⟩) hS ?_
        try simp only [Act.put]
        refine wpAnyH_take (i := 8) (v := .int .i64 ((q : Int) + 1 + (an : Int))) rfl (by kernel_rfl) (by kernel_rfl) (by kernel_rfl) (fun _ _ _ h => h) (Or.inl ⟨by rfl, fun w' h => by go_simp⟩) hS ?_
        try simp only [Act.put]
        refine wpAnyH_take (i := 9) (v := .slice ao an an) rfl (by kernel_rfl) (by kernel_rfl) (by kernel_rfl) (fun _ _ _ h => h) (Or.inl ⟨by rfl, fun w' h => by have hh := HSl.out w'; go_simp⟩) hS ?_
        try simp only [Act.put]
        refine wpAnyH_ready (rs := [10]) (by kernel_rfl) (by simp) (AllReadyH.cons rfl (fun K hK => ?_) (AllReadyH.nil))
        go_simp
        refine (compose_any _ _ (spol l (ci : Int)) (st.take an) W0 (HPv.out.kp hS) (HPs.out.kp hS)).mono ?_
        rintro e w4 ⟨v4, rfl, ho4, hb4⟩
        have b4 := below_step bW0 hb4
        have hS4 : Kp wr w4 := Kp.of_below b4
        refine hK.out _ _ hS4 (fun _ => ?_)
        clear hK K hS
        have hS := hS4
        clear hS4
        have hb0 : base ≤ W0.heap.size := Nat.le_trans hbase (Nat.le_trans BL.out.size bW0.size)
        obtain ⟨v4a, v4c, hv4⟩ := ho4.slice
        have HO4 := hid (ho4.mono hb0)
        clear ho4
        subst hv4
        generalize hlen : (compL (spol l (ci : Int)) (st.take an)).length = n4 at HO4 ⊢
        clear hlen
        generalize hz : compE (spol l (ci : Int)) (st.take an) = z at k3 ⊢
        have HZ := hid hz
        clear hz
        try simp only [Act.put, List.setIfInBounds_toArray, List.set_cons_zero, List.set_cons_succ]
        refine wpAnyH_take (i := 11) (v := .tuple #[.slice v4a n4 v4c, .int .i64 z]) rfl (by kernel_rfl) (by kernel_rfl) (by kernel_rfl) (fun _ _ _ h => h) (Or.inl ⟨by rfl, fun w' h => by go_simp⟩) hS ?_
        try simp only [Act.put, List.setIfInBounds_toArray]
        refine wpAnyH_take (i := 12) (v := .slice v4a n4 v4c) rfl (by kernel_rfl) (by kernel_rfl) (by kernel_rfl) (fun _ _ _ h => h) (Or.inl ⟨by rfl, fun w' h => by go_simp⟩) hS ?_
        try simp only [Act.put]
        refine wpAnyH_take (i := 13) (v := .int .i64 z) rfl (by kernel_rfl) (by kernel_rfl) (by kernel_rfl) (fun _ _ _ h => h) (Or.inl ⟨by rfl, fun w' h => by go_simp⟩) hS ?_
        try simp only [Act.put]
        refine wpAnyH_take (i := 14) (v := .slice v4a n4 v4c) rfl (by kernel_rfl) (by kernel_rfl) (by kernel_rfl) (fun _ _ _ h => h) (Or.inl ⟨by rfl, fun w' h => by go_simp⟩) hS ?_
        try simp only [Act.put]
        refine wpAnyH_take (i := 15) (v := .int .i64 z) rfl (by kernel_rfl) (by kernel_rfl) (by kernel_rfl) (fun _ _ _ h => h) (Or.inl ⟨by rfl, fun w' h => by go_simp⟩) hS ?_
        try simp only [Act.put]
        refine wpAnyH_done (by kernel_rfl) ?_ _
        have B4 := hid (below_step BL.out b4)
        have V4 := hid (HVB.out.later b4)
        have M4 := hid (HMC.out.later b4)
        have HSt4 : Hid (∀ (i : Nat) p, st[i]? = some p → ∃ u, vals[q + 1 + i]? = some u ∧ OM w4 base u p) := fun i p hi => by
          obtain ⟨x, x1, x2⟩ := HSt.out i p hi
          exact ⟨x, x1, x2.later b4⟩
        clear hS HSt HVB HMC BL bW0 hb4 b4 HPs HPv HSl y1 y3 hp1 hp2
        try simp only [List.getElem_toArray, List.getElem_cons_succ, List.getElem_cons_zero, List.setIfInBounds_toArray, List.set_cons_succ, List.set_cons_zero]
        have hneg : ¬ (ci : Int) < 0 := by omega
        rcases k3 with h0 | h2
        · subst h0
          have HNew : Hid (ofS sig (spol l) (vAt vs) (t.drop j) = some (compL (spol l (ci : Int)) (st.take an) :: st.drop an)) := by
            have h9 := ofS_yes (sp := spol l) HOf.out hneg (by rw [HAn.out]; exact HZ.out)
            rw [HAn.out] at h9
            show _ = _
            rw [HDr.out]
            exact h9
          have hq : q + an < vals.length := by rw [HVl.out]; omega
          have hcq := V4.out.cell (List.getElem?_eq_getElem hq)
          have hfr := V4.out.frozen (q + an)
          have hql : q + an < t.length := by omega
          have htl2 : q + an + (st.length - an + 1) = t.length := by omega
          have HTl : Hid (q + an + (compL (spol l (ci : Int)) (st.take an) :: st.drop an).length = t.length) := by show _ = _; rw [List.length_cons, List.length_drop]; exact htl2
          clear hsh htl htl2 hcn hneg
          go_wp2
          go_roundw
          case rel =>
            refine ⟨j, q + an, _, _, by omega, by go_num, by go_num, HTl.out, HNew.out, V4.out.set _ _, by rw [List.length_set]; exact HVl.out, fun i p hi => ?_, M4.out.setVB V4.out, B4.out.setCell (p := ⟨gL, q + an, none⟩) (by rw [← HGm.out] at *; exact hgL) _⟩
            cases i with
            | zero =>
              simp at hi
              subst hi
              exact ⟨_, by rw [Nat.add_zero, List.getElem?_set_self hq], HO4.out.setVB V4.out⟩
            | succ i =>
              rw [List.getElem?_cons_succ, List.getElem?_drop] at hi
              obtain ⟨x, x1, x2⟩ := HSt4.out _ p hi
              refine ⟨x, ?_, x2.setVB V4.out⟩
              rw [List.getElem?_set_ne (by omega), ← x1]
              congr 1
              omega
          case measure => simp [intOf] <;> omega
        · subst h2
          have HNone : Hid (ofV sig l vs t = none) := by
            have h9 := ofS_no (sp := spol l) HOf.out hneg (by rw [HAn.out, HZ.out]; decide)
            rw [← HDr.out] at h9
            have h8 := ofS_noneL h9 (t.take j)
            rw [List.take_append_drop] at h8
            exact hid (ofV_none h8)
          clear hneg hcn
          go_wp2
          go_ret2
          rw [HNone.out]
          exact ⟨⟨_, rfl, OM.nil _ _⟩, B4.out⟩

end Go.Proofs.YtlaenbdlgpepkaaGreatDoor

/- Match of package match walked. -/
namespace Go.Proofs.YtlaenbdlgpepkaaGreatDoor
open Go.RowKit Go.Maps

theorem rs_two {w : World} {pv tv : Value} {p t : List Int} (hp : Is w pv p) (ht : Is w tv t) (h1 : p.length * 8 ≤ 140737488351232) (h2 : t.length * 8 ≤ 140737488351232) : Rs (w.alloc (.cells #[pv, tv] 30)) (.slice (some ⟨w.heap.size, 0, none⟩) 2 2) [p, t] := by
  have hk := Kp.of_below (below_alloc (w := w) (.cells #[pv, tv] 30))
  refine ⟨_, 2, rfl, Nat.le_refl _, by simp [maxLen], fun _ => ⟨w.heap.size, 0, rfl, by simp, fun k x hx => ?_⟩⟩
  match k, hx with
  | 0, hx =>
    simp at hx
    subst hx
    exact ⟨h1, pv, cell_new rfl, hp.kp hk⟩
  | 1, hx =>
    simp at hx
    subst hx
    exact ⟨h2, tv, cell_new rfl, ht.kp hk⟩
  | k + 2, hx => simp at hx

end Go.Proofs.YtlaenbdlgpepkaaGreatDoor

/- What the binds of a match make of the pattern, plainly. -/
namespace Go.Proofs.YtlaenbdlgpepkaaGreatDoor
open Go.RowKit Go.Maps

theorem first_codes2 {sig : List Sy} : ∀ (t : List Int) (m : Int) (i : Nat), firstT sig m i t = ((i : Int) + t.length, 0) → ∀ c ∈ t, codeD sig c ≠ none
  | [], _, _, _, c, hc => by simp at hc
  | a :: t, m, i, h, c, hc => by
    unfold firstT at h
    cases ha : codeD sig a with
    | none => rw [ha] at h; simp at h
    | some x =>
      rw [ha] at h
      simp only at h
      by_cases h0 : m + x = 0
      · rw [if_pos h0] at h
        have h2 := congrArg Prod.fst h
        simp only [List.length_cons] at h2
        have h3 : t.length = 0 := by omega
        obtain rfl := List.eq_nil_of_length_eq_zero h3
        rw [List.mem_singleton] at hc
        subst hc
        rw [ha]
        simp
      · rw [if_neg h0] at h
        rcases List.mem_cons.1 hc with rfl | hc
        · rw [ha]; simp
        · refine first_codes2 t (m + x) (i + 1) ?_ c hc
          rw [h]
          simp only [List.length_cons]
          congr 1
          push_cast
          omega

theorem codes_of {sig : List Sy} {p : List Int} (h : rowE sig p = 0) {c : Int} (hc : c ∈ p) : -1048576 ≤ c := by
  have h1 := row_first.1 h
  have h2 := first_codes2 p 1 0 (by rw [h1]; simp) c hc
  by_cases h3 : c < -1048576
  · exact absurd (codeD_none (.inr h3)) h2
  · omega

end Go.Proofs.YtlaenbdlgpepkaaGreatDoor

/- slices.Grow, slices.Concat walked. -/
namespace Go.Proofs.YtlaenbdlgpepkaaGreatDoor
open Go.RowKit Go.Maps Go.BigFrame

theorem wpList_append_run2 {P : Program} {w w' : World} {ops : Array Oper} {rest : List Oper} {o : Oper} {a : Act} {v' : Value} {Q : Exit → Act → World → Prop} (hgd : o.guard = none) (s x : Operand) (t t2 : TypeId)
    (ho : o.op = .call { callee := .builtin .append, args := #[s, x], argTypes := #[t, t2] }) (v u : Value) (hs : a.eval s = v) (hx : a.eval x = u)
    (hr : (Builtin.append_ #[t, t2] o.type #[v, u]).run P w = .ok v' w') (h : wpList P ops Q rest (a.put o.dst v') w') : wpList P ops Q (o :: rest) a w := by
  refine wpList_plain hgd fun K hK => ?_
  unfold Oper.wp execOp
  simp only [ho, resolve, invoke, builtin, Sem.run_bind, Sem.run_pure, Result.andThen_ok, List.map_toArray, List.map_cons, List.map_nil, hs, hx, hr]
  exact hK _ _ h

theorem zeroI_cells (n : Nat) : (Builtin.zeroCells (Value.int .i64 0).cells n).size = n := by
  simp [Builtin.zeroCells, Value.cells]

set_option maxRecDepth 100000 in
theorem growS_any (n : Nat) (w : World) (h : n * 8 ≤ 140737488355328) :
    Calls Tryz.prog 153 #[.slice none 0 0, .int .i64 n] w fun e w' => ∃ v', e = .returned v' ∧ OwI w' w.heap.size v' [] ∧ Below w.heap.size w w' := by
  obtain ⟨i0, hi, hz0, hz1, hz2⟩ := info_parts info_int
  by_cases h0 : n = 0
  · subst h0
    go_enter Tryz.func153, Tryz.ntmps153
    go_wp2
    go_ret
    exact ⟨_, rfl, nilI _ _, Below.refl _ _⟩
  · have hn1 : ¬ (n : Int) < 0 := by omega
    have hn2 : (0 : Int) < (n : Int) := by omega
    have hr := Lib.run_append_nil_zeros (P := Tryz.prog) w 30 3 30 3 i0 (.int .i64 0) .i64 .i64 under_ints (by kernel_rfl) hi hz0 n (by omega) (by rw [hz1]; decide) (by omega) (by rw [hz2]; omega)
    obtain ⟨C, hC⟩ : ∃ C, C = grownCap w n 0 3 := ⟨_, rfl⟩
    rw [← hC] at hr
    have HR := hid hr
    have HC : Hid (n ≤ C ∧ C ≤ maxLen) := by
      rw [hC]
      exact ⟨grownCap_ge _ _ _ _, grownCap_le_maxLen _ _ _ _ (by unfold maxLen; omega)⟩
    clear hr hC
    go_enter Tryz.func153, Tryz.ntmps153
    go_wp2_with (first
      | (at_builtin; refine wpList_append_run2 rfl _ _ _ _ rfl _ _ rfl rfl HR.out ?_))
    go_ret
    refine ⟨_, rfl, ⟨fun k x hk => (by simp at hk), rfl, .inr ⟨w.heap.size, C, _, rfl, Nat.le_refl _, heap_alloc_new _ _, Nat.zero_le _, HC.out.2, ?_, rfl⟩⟩, below_step (below_alloc _) (drawn_below1 _)⟩
    have h1 := zeroI_cells n
    have h2 := zeroI_cells (C - n)
    simp only [Value.cells] at h1 h2
    have := HC.out.1
    rw [Array.size_append, h1, h2]
    omega

theorem sumT_take {l : List (List Int)} {k : Nat} {r : List Int} (h : l[k]? = some r) : ((l.take (k + 1)).map List.length).sum = ((l.take k).map List.length).sum + r.length := by
  rw [take_get h, List.map_append, List.sum_append]
  simp

theorem sumT_le (l : List (List Int)) (k : Nat) : ((l.take k).map List.length).sum ≤ (l.map List.length).sum := by
  have : (l.map List.length).sum = ((l.take k).map List.length).sum + ((l.drop k).map List.length).sum := by
    rw [← List.sum_append, ← List.map_append, List.take_append_drop]
  omega

theorem flat_len (l : List (List Int)) : l.flatten.length = (l.map List.length).sum := List.length_flatten

set_option maxRecDepth 100000 in
set_option maxHeartbeats 1600000 in
theorem concat_any (v : Value) (l : List (List Int)) (w : World) (h : Rs w v l) (hl : (l.map List.length).sum * 8 ≤ 140737488355328) :
    Calls Tryz.prog 102 #[v] w fun e w' => ∃ v', e = .returned v' ∧ OwI w' w.heap.size v' l.flatten ∧ Below w.heap.size w w' := by
  obtain ⟨ao, cap, rfl, hao, hca, q0⟩ := Row.flat h
  unfold maxLen at hca
  have HR := hid h
  clear h q0
  go_enter Tryz.func102, Tryz.ntmps102
  go_wp2
  go_loopw [3, 11] (fun x i wr => ∃ k : Nat, k ≤ l.length ∧ i = .int .i64 k ∧ x = .int .i64 ((((l.take k).map List.length).sum : Nat) : Int) ∧ wr = w) (fun _ i _ => l.length - (intOf i).toNat)
  case atStart => exact ⟨0, Nat.zero_le _, rfl, rfl, rfl⟩
  case round =>
    obtain ⟨k, hk, rfl, rfl, hw⟩ := hrel
    have hw8 := hw.symm
    subst hw8
    clear hw
    have hsl := sumT_le l k
    have hsl1 := sumT_le l (k + 1)
    by_cases hlt : k < l.length
    · obtain ⟨g, off, a, r, c, rfl, hm, hc0, hir, hrl⟩ := HR.out.at hlt
      have hst := sumT_take hm
      have HSt := hid hst
      obtain ⟨S, hS⟩ : ∃ S, S = ((l.take k).map List.length).sum := ⟨_, rfl⟩
      rw [← hS] at hsl hst HSt ⊢
      have hw1 : IntKind.i64.wrap ((S : Int) + (r.length : Int)) = ((S + r.length : Nat) : Int) := by rw [IntWalk.i64_in _ ⟨by omega, by omega⟩]; omega
      have hn0 : ¬ ((S + r.length : Nat) : Int) < 0 := by omega
      clear hm hir hS
      go_wp2
      go_roundw
      case rel => exact ⟨k + 1, by omega, by go_num, by rw [HSt.out]; exact congrArg (Value.int .i64) (by omega), trivial⟩
      case measure => simp [intOf]; omega
    · have hke : k = l.length := by omega
      subst hke
      rw [List.take_length]
      have HG := hid (growS_any (l.map List.length).sum w hl)
      go_wp2_with fail
      refine HG.out.mono ?_
      rintro e w1 ⟨v1, rfl, ho1, hb1⟩
      have HO1 := hid ho1
      have HB1 := hid hb1
      clear ho1 hb1 HG hsl hsl1 hlt hk
      go_wp2
      go_loopw [6, 27] (fun x i wr => ∃ k : Nat, k ≤ l.length ∧ i = .int .i64 k ∧ OwI wr w.heap.size x (l.take k).flatten ∧ Below w.heap.size w wr) (fun _ i _ => l.length - (intOf i).toNat)
      case atStart => exact ⟨0, Nat.zero_le _, rfl, HO1.out, HB1.out⟩
      case round =>
        obtain ⟨k, hk, rfl, how, hbl⟩ := hrel
        have HO := hid how
        have HB := hid hbl
        have hsl := sumT_le l k
        have hsl1 := sumT_le l (k + 1)
        clear how
        by_cases hlt : k < l.length
        · obtain ⟨g, off, a, r, c, rfl, hm, hc0, hir, hrl⟩ := (HR.out.kp (Kp.of_below hbl)).at hlt
          have hst := sumT_take hm
          have HFl : Hid ((l.take (k + 1)).flatten = (l.take k).flatten ++ r) := by
            show _ = _
            rw [take_get hm, List.flatten_append]
            simp
          obtain ⟨v4, w4, hr4, ho4, hg4⟩ := join_ints 30 HO.out hir HB.out.size (by rw [flat_len]; omega)
          have HR4 := hid hr4
          have HO4 := hid ho4
          have HB4 : Hid (Below w.heap.size w w4) := HB.out.grown hg4 HB.out.size (fun j hj => own_blk HO.out.2 hj)
          clear hm hir hr4 ho4 hg4 hst hbl
          go_wp2_with (first
            | (at_builtin; refine wpList_append_run rfl _ _ _ rfl _ _ rfl rfl HR4.out ?_))
          go_roundw
          case rel => exact ⟨k + 1, by omega, by go_num, by rw [HFl.out]; exact HO4.out, HB4.out⟩
          case measure => simp [intOf]; omega
        · have hke : k = l.length := by omega
          subst hke
          rw [List.take_length] at HO
          go_wp2
          go_ret
          exact ⟨_, rfl, HO.out, HB.out⟩

end Go.Proofs.YtlaenbdlgpepkaaGreatDoor

/- Package interp's Of, sides and Falls. -/
namespace Go.Proofs.YtlaenbdlgpepkaaGreatDoor
open Go.RowKit Go.Maps Go.BigFrame

theorem vars_mem12 {t : List Int} {c : Int} (hc : c ∈ t) (h0 : c < 0) : -1 - c ∈ varsL t := by
  unfold varsL
  exact List.mem_map.2 ⟨c, (metA_mem t [] c).2 (.inr ⟨hc, h0⟩), rfl⟩

theorem vars_of12 {t : List Int} {v : Int} (h : v ∈ varsL t) : ∃ c ∈ t, c < 0 ∧ v = -1 - c := by
  unfold varsL at h
  obtain ⟨c, hc, rfl⟩ := List.mem_map.1 h
  rcases (metA_mem t [] c).1 hc with h | ⟨h1, h2⟩
  · cases h
  · exact ⟨c, h1, h2, rfl⟩

theorem vars_nodup12 (t : List Int) : (varsL t).Nodup := by
  unfold varsL
  have h := met_once t [] List.nodup_nil
  rw [List.nodup_iff_pairwise_ne] at h ⊢
  rw [List.pairwise_map]
  exact h.imp (fun {a b} hne e => hne (by omega))

theorem vars_ok12 {sig : List Sy} {t : List Int} (h : rowE sig t = 0) : ∀ v ∈ varsL t, 0 ≤ v ∧ v ≤ 1048576 := fun v hv => by
  obtain ⟨c, hc, h0, rfl⟩ := vars_of12 hv
  have := codes_of h hc
  omega

theorem Ins.lim {w : World} {v : Value} {l : List Ip} (h : Ins w v l) : ∀ x ∈ l, ∀ m ∈ x.2, Lim m.1 := by
  intro x hx
  obtain ⟨k, hk⟩ := List.mem_iff_getElem?.1 hx
  obtain ⟨ao, cap, rfl, _, _, hf⟩ := Row.flat h
  obtain ⟨g, off, y, _, hk2, hy⟩ := hf k (List.getElem?_eq_some_iff.1 hk).1
  rw [hk] at hk2
  cases hk2
  obtain ⟨_, _, _, pv, _, hms⟩ := hy
  exact hms.limA

theorem termE_zero {sig : List Sy} {t : List Int} (h : termE sig t = 0) : sigE sig = 0 ∧ rowE sig t = 0 := term_parts h

set_option maxRecDepth 100000 in
set_option maxHeartbeats 6400000 in
theorem interpOf_any (sv lv tv : Value) (sig : List Sy) (l : List Ip) (t : List Int) (w : World) (hs : Sg w sv sig) (hl : Ins w lv l) (ht : Is w tv t) (hT : Tabs w) (hb : t.length * 24 ≤ 140737488351232) :
    Calls Tryz.prog 16 #[sv, lv, tv] w fun e w' => (∃ v', e = .returned (.tuple #[v', .int .i64 (ofPE sig l t)]) ∧ OM w' w.heap.size v' (ofPL sig l t)) ∧ Below w.heap.size w w' := by
  have HCk := hid (inCheck_any sv lv sig l w hs hl hT)
  obtain ⟨so, sc, rfl, hso, hsc, _⟩ := Row.flat hs
  obtain ⟨lo, lc, rfl, hlo, hlc, _⟩ := Row.flat hl
  obtain ⟨ta, tc, rfl, hto, htc, _⟩ := Row.flat ht
  unfold maxLen at hsc hlc htc
  have HS := hid hs
  have HL := hid hl
  have HI := hid ht
  have HT := hid hT
  have HLim := hid hl.lim
  clear hs hl ht hT
  go_enter Tryz.func16, Tryz.ntmps16
  go_wp2_with fail
  refine HCk.out.mono ?_
  rintro e w1 ⟨rfl, hb1⟩
  have B1 := hid hb1
  clear hb1 HCk
  by_cases hE : inE sig l = 0
  · have HIn := hid hE
    have HR : Hid (ofPE sig l t = if termE sig t = 0 then ovE (ofV sig l (varsL t) t) else termE sig t) := by show _ = _; unfold ofPE; rw [if_pos hE]
    have HRL : Hid (ofPL sig l t = if termE sig t = 0 then ovL (ofV sig l (varsL t) t) else []) := by
      show _ = _
      unfold ofPL
      by_cases h : termE sig t = 0
      · rw [if_pos ⟨hE, h⟩, if_pos h]
      · rw [if_neg (fun h9 => h h9.2), if_neg h]
    rw [hE]
    clear hE
    go_wp2_with fail
    refine (check_any _ _ sig t w1 (HS.out.kp (Kp.of_below B1.out)) (HI.out.kp (Kp.of_below B1.out)) (HT.out.below B1.out) (by omega)).mono ?_
    rintro e w2 ⟨rfl, hb2⟩
    have B2 := hid (below_step B1.out hb2)
    clear hb2 B1
    by_cases hE2 : termE sig t = 0
    · have HTe := hid hE2
      have HR2 : Hid (ofPE sig l t = ovE (ofV sig l (varsL t) t)) := by show _ = _; rw [HR.out, if_pos hE2]
      have HR3 : Hid (ofPL sig l t = ovL (ofV sig l (varsL t) t)) := by show _ = _; rw [HRL.out, if_pos hE2]
      rw [hE2]
      clear hE2 HR HRL
      go_wp2_with fail
      refine (vars_any _ t w2 (HI.out.kp (Kp.of_below B2.out)) (by omega)).mono ?_
      rintro e w3 ⟨vv, rfl, hov, hb3⟩
      have B3 := hid (below_step B2.out hb3)
      have HV := hid hov.is
      obtain ⟨va, vc, rfl, hva, hvc⟩ := hov.shape
      clear hov hb3 B2
      by_cases hbig : 512 < (varsL t).length
      · have HNo : Hid (ofV sig l (varsL t) t = none) := by show _ = _; unfold ofV; rw [if_pos hbig]
        go_wp2_with fail
        refine (newMeaning_big _ _ _ (varsL t) w3 HV.out hbig).mono ?_
        rintro e w4 ⟨rfl, hb4⟩
        have B4 := hid (below_step B3.out hb4)
        clear hb4 B3 hbig
        go_wp2
        go_ret2
        rw [HR2.out, HR3.out, HNo.out]
        exact ⟨⟨_, rfl, OM.nil _ _⟩, below_step B4.out (below_alloc _)⟩
      · have hsm : (varsL t).length ≤ 512 := by omega
        go_wp2_with fail
        refine (newMeaning_any _ _ _ sig l (varsL t) w3 (HS.out.kp (Kp.of_below B3.out)) (HL.out.kp (Kp.of_below B3.out)) HV.out HIn.out (vars_nodup12 t) (vars_ok12 (termE_zero HTe.out).2) hsm (sigE_len (termE_zero HTe.out).1)).mono ?_
        rintro e w4 ⟨gS, b, rfl, hM, hb4⟩
        have B4 := hid (below_step B3.out hb4)
        have hb3 := B3.out.size
        have hb34 := hb4.size
        have HM := hid hM
        clear hb4 hM hbig
        have hB5 := below_alloc (w := w4) (.cells #[.slice so sig.length sc, .slice (some ⟨gS, 0, none⟩) sig.length sig.length, .map (some b)] 85)
        obtain ⟨W5, hW5⟩ : ∃ X, X = w4.alloc (.cells #[.slice so sig.length sc, .slice (some ⟨gS, 0, none⟩) sig.length sig.length, .map (some b)] 85) := ⟨_, rfl⟩
        have y0 : W5.cell? ⟨w4.heap.size, 0, none⟩ = some (.slice so sig.length sc) := by rw [hW5, cell_of_row _ _ _ _ _ _ (heap_alloc_new _ _)]; rfl
        have y1 : W5.cell? ⟨w4.heap.size, 1, none⟩ = some (.slice (some ⟨gS, 0, none⟩) sig.length sig.length) := by rw [hW5, cell_of_row _ _ _ _ _ _ (heap_alloc_new _ _)]; rfl
        have y2 : W5.cell? ⟨w4.heap.size, 2, none⟩ = some (.map (some b)) := by rw [hW5, cell_of_row _ _ _ _ _ _ (heap_alloc_new _ _)]; rfl
        rw [← hW5] at hB5
        have B5 := hid (below_step B4.out hB5)
        have HM5 := hid (HM.out.later hB5)
        have hsz : w3.heap.size ≤ W5.heap.size := Nat.le_trans hb34 hB5.size
        go_upto_region 8 with fail
        rw [← hW5]
        clear hW5 hB5 HM
        go_wp2_with fail
        refine (meaningOf_any _ _ sig l (varsL t) t w3.heap.size gS b W5 (HS.out.kp (Kp.of_below B5.out)) (HI.out.kp (Kp.of_below B5.out)) HM5.out hsz HIn.out HLim.out (termE_zero HTe.out).2 (fun c hc h0 => vars_mem12 hc h0) (vars_nodup12 t) hsm (by omega)).mono ?_
        rintro e w6 ⟨⟨v6, rfl, ho6⟩, hb6⟩
        have B6 := hid (below_step B5.out hb6)
        have HO6 := hid (ho6.mono hb3)
        clear ho6 hb6 y0 y1 y2 HM5
        go_wp2
        go_ret2
        rw [HR2.out, HR3.out]
        exact ⟨⟨_, rfl, HO6.out⟩, B6.out⟩
    · have HR2 : Hid (ofPE sig l t = termE sig t) := by show _ = _; rw [HR.out, if_neg hE2]
      have HR3 : Hid (ofPL sig l t = []) := by show _ = _; rw [HRL.out, if_neg hE2]
      have hne : (termE sig t != 0) = true := by rw [bne_iff_ne]; exact hE2
      clear hE2 HR HRL
      generalize termE sig t = z at hne HR2 ⊢
      go_wp2
      go_ret2
      rw [HR2.out, HR3.out]
      exact ⟨⟨_, rfl, OM.nil _ _⟩, B2.out⟩
  · have HR2 : Hid (ofPE sig l t = inE sig l) := by show _ = _; unfold ofPE; rw [if_neg hE]
    have HR3 : Hid (ofPL sig l t = []) := by show _ = _; unfold ofPL; rw [if_neg (fun h9 => hE h9.1)]
    have hne : (inE sig l != 0) = true := by rw [bne_iff_ne]; exact hE
    clear hE
    generalize inE sig l = z at hne HR2 ⊢
    go_wp2
    go_ret2
    rw [HR2.out, HR3.out]
    exact ⟨⟨_, rfl, OM.nil _ _⟩, B1.out⟩

set_option maxRecDepth 100000 in
set_option maxHeartbeats 6400000 in
theorem sides_any (sv lv av bv : Value) (sig : List Sy) (l : List Ip) (a b : List Int) (w : World) (hs : Sg w sv sig) (hl : Ins w lv l) (ha : Is w av a) (hb : Is w bv b) (hin : inE sig l = 0) (hta : termE sig a = 0) (htb : termE sig b = 0) (hla : a.length * 24 ≤ 70368744175616) (hlb : b.length * 24 ≤ 70368744175616) (vs : List Int) (hvs : varsL (a ++ b) = vs) :
    Calls Tryz.prog 50 #[sv, lv, .agg #[av, bv]] w fun e w' => (∃ v1 v2, e = .returned (.tuple #[v1, v2, .int .i64 (ovE2 (ofV sig l vs a) (ofV sig l vs b))]) ∧ (ovE2 (ofV sig l vs a) (ofV sig l vs b) = 0 → Ms w' v1 (ovL (ofV sig l vs a)) ∧ Ms w' v2 (ovL (ofV sig l vs b)))) ∧ Below w.heap.size w w' := by
  obtain ⟨so, sc, rfl, hso, hsc, _⟩ := Row.flat hs
  obtain ⟨lo, lc, rfl, hlo, hlc, _⟩ := Row.flat hl
  obtain ⟨aa, ac, rfl, hao, hac, _⟩ := Row.flat ha
  obtain ⟨ba, bc, rfl, hbo, hbc, _⟩ := Row.flat hb
  unfold maxLen at hsc hlc hac hbc
  have HS := hid hs
  have HL := hid hl
  have HA := hid ha
  have HB := hid hb
  have HIn := hid hin
  have HTa := hid hta
  have HTb := hid htb
  have HLim := hid hl.lim
  have HVs := hid hvs
  clear hs hl ha hb hin hta htb hvs
  obtain ⟨W0, hW0⟩ : ∃ X, X = w.alloc (.cells #[.slice aa a.length ac, .slice ba b.length bc] 41) := ⟨_, rfl⟩
  have B0 : Hid (Below w.heap.size w W0) := by rw [hW0]; exact below_alloc _
  have r0 : W0.cell? ⟨w.heap.size, 0, none⟩ = some (.slice aa a.length ac) := by rw [hW0, cell_of_row _ _ _ _ _ _ (heap_alloc_new _ _)]; rfl
  have r1 : W0.cell? ⟨w.heap.size, 1, none⟩ = some (.slice ba b.length bc) := by rw [hW0, cell_of_row _ _ _ _ _ _ (heap_alloc_new _ _)]; rfl
  go_enter Tryz.func50, Tryz.ntmps50
  go_upto_region 1 with fail
  rw [← hW0]
  clear hW0
  generalize hgr : w.heap.size = gr at r0 r1 ⊢
  clear hgr
  have hR2 := rs_two (HA.out.kp (Kp.of_below B0.out)) (HB.out.kp (Kp.of_below B0.out)) (by omega) (by omega)
  have hB1 := below_alloc (w := W0) (.cells #[.slice aa a.length ac, .slice ba b.length bc] 30)
  obtain ⟨W1, hW1⟩ : ∃ X, X = W0.alloc (.cells #[.slice aa a.length ac, .slice ba b.length bc] 30) := ⟨_, rfl⟩
  go_wp2_with fail
  rw [← hW1] at hR2 hB1 ⊢
  clear hW1
  refine (concat_any _ [a, b] W1 hR2 (by simp; omega)).mono ?_
  rintro e w2 ⟨cv, rfl, hoc, hb2⟩
  have B2 := hid (below_step (below_step B0.out hB1) hb2)
  have K2 := hid ((Kp.of_below hB1).trans (Kp.of_below hb2))
  have HC : Hid (Is w2 cv (a ++ b)) := by
    have h := hoc.is
    rw [show [a, b].flatten = a ++ b by simp] at h
    exact hid h
  clear hoc hb2 hB1 hR2
  go_wp2_with fail
  refine (vars_any _ (a ++ b) w2 HC.out (by rw [List.length_append]; omega)).mono ?_
  rintro e w3 ⟨vv, rfl, hov, hb3⟩
  have B3 := hid (below_step B2.out hb3)
  have K3 := hid (K2.out.trans (Kp.of_below hb3))
  have HV := hid hov.is
  obtain ⟨va, vc, rfl, hva, hvc⟩ := hov.shape
  clear hov hb3 B2 K2
  rw [HVs.out] at HV hva ⊢
  have HNd : Hid vs.Nodup := by rw [← HVs.out]; exact hid (vars_nodup12 _)
  have HRg : Hid (∀ v ∈ vs, 0 ≤ v ∧ v ≤ 1048576) := fun v hv => by
    rw [← HVs.out] at hv
    obtain ⟨c, hc, h0, rfl⟩ := vars_of12 hv
    rcases List.mem_append.1 hc with h | h
    · have := codes_of (termE_zero HTa.out).2 h
      omega
    · have := codes_of (termE_zero HTb.out).2 h
      omega
  have HMa : Hid (∀ c ∈ a, c < 0 → (-1 - c) ∈ vs) := fun c hc h0 => by rw [← HVs.out]; exact vars_mem12 (List.mem_append.2 (.inl hc)) h0
  have HMb : Hid (∀ c ∈ b, c < 0 → (-1 - c) ∈ vs) := fun c hc h0 => by rw [← HVs.out]; exact vars_mem12 (List.mem_append.2 (.inr hc)) h0
  by_cases hbig : 512 < vs.length
  · have HNa : Hid (ofV sig l vs a = none) := by show _ = _; unfold ofV; rw [if_pos hbig]
    have HZ : Hid (ovE2 (ofV sig l vs a) (ofV sig l vs b) = 2) := by show _ = _; rw [HNa.out]; rfl
    go_wp2_with fail
    refine (newMeaning_big _ _ _ vs w3 HV.out hbig).mono ?_
    rintro e w4 ⟨rfl, hb4⟩
    have B4 := hid (below_step B3.out hb4)
    clear hb4 B3 hbig
    go_wp2
    go_ret3
    rw [HZ.out]
    exact ⟨⟨_, _, rfl, fun h => absurd h (by decide)⟩, below_step B4.out (below_alloc _)⟩
  · have hsm : vs.length ≤ 512 := by omega
    go_wp2_with fail
    refine (newMeaning_any _ _ _ sig l vs w3 (HS.out.kp (Kp.of_below B3.out)) (HL.out.kp (Kp.of_below B3.out)) HV.out HIn.out HNd.out HRg.out hsm (sigE_len (termE_zero HTa.out).1)).mono ?_
    rintro e w4 ⟨gS, mb, rfl, hM, hb4⟩
    have B4 := hid (below_step B3.out hb4)
    have K4 := hid (K3.out.trans (Kp.of_below hb4))
    have hb34 := hb4.size
    have HM := hid hM
    clear hb4 hM hbig B3 K3
    have hB5 := below_alloc (w := w4) (.cells #[.slice so sig.length sc, .slice (some ⟨gS, 0, none⟩) sig.length sig.length, .map (some mb)] 85)
    obtain ⟨W5, hW5⟩ : ∃ X, X = w4.alloc (.cells #[.slice so sig.length sc, .slice (some ⟨gS, 0, none⟩) sig.length sig.length, .map (some mb)] 85) := ⟨_, rfl⟩
    have y0 : W5.cell? ⟨w4.heap.size, 0, none⟩ = some (.slice so sig.length sc) := by rw [hW5, cell_of_row _ _ _ _ _ _ (heap_alloc_new _ _)]; rfl
    have y1 : W5.cell? ⟨w4.heap.size, 1, none⟩ = some (.slice (some ⟨gS, 0, none⟩) sig.length sig.length) := by rw [hW5, cell_of_row _ _ _ _ _ _ (heap_alloc_new _ _)]; rfl
    have y2 : W5.cell? ⟨w4.heap.size, 2, none⟩ = some (.map (some mb)) := by rw [hW5, cell_of_row _ _ _ _ _ _ (heap_alloc_new _ _)]; rfl
    rw [← hW5] at hB5
    have B5 := hid (below_step B4.out hB5)
    have HM5 := hid (HM.out.later hB5)
    have hsz : w3.heap.size ≤ W5.heap.size := Nat.le_trans hb34 hB5.size
    have K5 := hid (K4.out.trans (Kp.of_below hB5))
    go_upto_region 2 with fail
    rw [← hW5]
    clear hW5 hB5 HM B4 K4
    generalize w4.heap.size = gc at y0 y1 y2 ⊢
    have q0 := K5.out.cell _ _ r0
    have q1 := K5.out.cell _ _ r1
    clear r0 r1
    go_wp2_with fail
    refine (meaningOf_any _ _ sig l vs a w3.heap.size gS mb W5 (HS.out.kp (Kp.of_below B5.out)) (HA.out.kp (Kp.of_below B5.out)) HM5.out hsz HIn.out HLim.out (termE_zero HTa.out).2 HMa.out HNd.out hsm (by omega)).mono ?_
    rintro e w6 ⟨⟨v6, rfl, ho6⟩, hb6⟩
    have B6 := hid (below_step B5.out hb6)
    have p0 := (Kp.of_below hb6).cell _ _ y0
    have p1 := (Kp.of_below hb6).cell _ _ y1
    have p2 := (Kp.of_below hb6).cell _ _ y2
    have p4 := (Kp.of_below hb6).cell _ _ q1
    have hsz6 := Nat.le_trans hsz hb6.size
    have HM6 := hid (HM5.out.later hb6)
    have HO6 := hid ho6.ms
    clear ho6 hb6 y0 y1 y2 q0 q1 HM5 B5 K5 hsz
    rcases Option.eq_none_or_eq_some (ofV sig l vs a) with ho | ⟨pa, ho⟩
    · have HZ : Hid (ovE2 (ofV sig l vs a) (ofV sig l vs b) = 2) := by show _ = _; rw [ho]; rfl
      have hz : ovE (ofV sig l vs a) = 2 := by rw [ho]; rfl
      rw [hz]
      clear hz ho
      go_wp2
      go_ret3
      rw [HZ.out]
      exact ⟨⟨_, _, rfl, fun h => absurd h (by decide)⟩, B6.out⟩
    · have HZ : Hid (ovE2 (ofV sig l vs a) (ofV sig l vs b) = ovE (ofV sig l vs b)) := by show _ = _; rw [ho]; rfl
      have hz : ovE (ofV sig l vs a) = 0 := by rw [ho]; rfl
      rw [hz]
      clear hz ho
      go_wp2_with fail
      refine (meaningOf_any _ _ sig l vs b w3.heap.size gS mb w6 (HS.out.kp (Kp.of_below B6.out)) (HB.out.kp (Kp.of_below B6.out)) HM6.out hsz6 HIn.out HLim.out (termE_zero HTb.out).2 HMb.out HNd.out hsm (by omega)).mono ?_
      rintro e w7 ⟨⟨v7, rfl, ho7⟩, hb7⟩
      have B7 := hid (below_step B6.out hb7)
      have HO7 := hid ho7.ms
      have HO67 := hid (HO6.out.kp (Kp.of_below hb7))
      clear ho7 hb7 p0 p1 p2 p4 HM6 B6 HO6
      go_wp2
      go_ret3
      rw [HZ.out]
      exact ⟨⟨_, _, rfl, fun _ => ⟨HO67.out, HO7.out⟩⟩, B7.out⟩

theorem ret2ii12 {a b c d : Int} (h : a = c) (h' : b = d) : Ending.returned (.tuple #[.int .i64 a, .int .i64 b]) = .returned (.tuple #[.int .i64 c, .int .i64 d]) := by rw [h, h']

theorem fallE_out {sig : List Sy} {l : List Ip} {a b : List Int} (h : inE sig l = 0) : fallE sig l a b = if termE sig a = 0 then if termE sig b = 0 then ovE2 (ofV sig l (varsL (a ++ b)) a) (ofV sig l (varsL (a ++ b)) b) else termE sig b else termE sig a := by
  unfold fallE
  rw [if_pos h]

theorem fallN_zero {sig : List Sy} {l : List Ip} {a b : List Int} (h : ¬ fallE sig l a b = 0) : fallN sig l a b = 0 := by
  unfold fallN
  rw [if_neg h]

set_option maxRecDepth 100000 in
set_option maxHeartbeats 6400000 in
theorem falls_any (sv lv av bv : Value) (sig : List Sy) (l : List Ip) (a b : List Int) (w : World) (hs : Sg w sv sig) (hl : Ins w lv l) (ha : Is w av a) (hb : Is w bv b) (hT : Tabs w) (hla : a.length * 24 ≤ 70368744175616) (hlb : b.length * 24 ≤ 70368744175616) :
    Calls Tryz.prog 19 #[sv, lv, .agg #[av, bv]] w fun e w' => e = .returned (.tuple #[.int .i64 (fallN sig l a b), .int .i64 (fallE sig l a b)]) ∧ Below w.heap.size w w' := by
  have HCk := hid (fun W (hB : Below w.heap.size w W) => inCheck_any sv lv sig l W (hs.kp (Kp.of_below hB)) (hl.kp (Kp.of_below hB)) (hT.below hB))
  obtain ⟨so, sc, rfl, hso, hsc, _⟩ := Row.flat hs
  obtain ⟨lo, lc, rfl, hlo, hlc, _⟩ := Row.flat hl
  obtain ⟨aa, ac, rfl, hao, hac, _⟩ := Row.flat ha
  obtain ⟨ba, bc, rfl, hbo, hbc, _⟩ := Row.flat hb
  unfold maxLen at hsc hlc hac hbc
  have HS := hid hs
  have HL := hid hl
  have HA := hid ha
  have HB := hid hb
  have HT := hid hT
  clear hs hl ha hb hT
  obtain ⟨W0, hW0⟩ : ∃ X, X = w.alloc (.cells #[.slice aa a.length ac, .slice ba b.length bc] 41) := ⟨_, rfl⟩
  have B0 : Hid (Below w.heap.size w W0) := by rw [hW0]; exact below_alloc _
  have r0 : W0.cell? ⟨w.heap.size, 0, none⟩ = some (.slice aa a.length ac) := by rw [hW0, cell_of_row _ _ _ _ _ _ (heap_alloc_new _ _)]; rfl
  have r1 : W0.cell? ⟨w.heap.size, 1, none⟩ = some (.slice ba b.length bc) := by rw [hW0, cell_of_row _ _ _ _ _ _ (heap_alloc_new _ _)]; rfl
  go_enter Tryz.func19, Tryz.ntmps19
  go_upto_region 1 with fail
  rw [← hW0]
  clear hW0
  generalize w.heap.size = gr at r0 r1 ⊢
  go_wp2_with fail
  refine (HCk.out W0 B0.out).mono ?_
  rintro e w1 ⟨rfl, hb1⟩
  have B1 := hid (below_step B0.out hb1)
  have R0 := hid ((Kp.of_below hb1).cell _ _ r0)
  have R1 := hid ((Kp.of_below hb1).cell _ _ r1)
  clear hb1 HCk r0 r1
  by_cases hE : inE sig l = 0
  · have HIn := hid hE
    have HR := hid (fallE_out (a := a) (b := b) hE)
    rw [hE]
    clear hE
    have r0 := R0.out
    have r1 := R1.out
    have hR2 := rs_two (HA.out.kp (Kp.of_below B1.out)) (HB.out.kp (Kp.of_below B1.out)) (by omega) (by omega)
    have hB2 := below_alloc (w := w1) (.cells #[.slice aa a.length ac, .slice ba b.length bc] 30)
    obtain ⟨W2, hW2⟩ : ∃ X, X = w1.alloc (.cells #[.slice aa a.length ac, .slice ba b.length bc] 30) := ⟨_, rfl⟩
    have z0 : W2.cell? ⟨w1.heap.size, 0, none⟩ = some (.slice aa a.length ac) := by rw [hW2, cell_of_row _ _ _ _ _ _ (heap_alloc_new _ _)]; rfl
    have z1 : W2.cell? ⟨w1.heap.size, 1, none⟩ = some (.slice ba b.length bc) := by rw [hW2, cell_of_row _ _ _ _ _ _ (heap_alloc_new _ _)]; rfl
    go_wp2
    rw [← hW2] at hB2 ⊢
    clear hW2 hR2
    have B2 := hid (below_step B1.out hB2)
    have S0 := hid ((Kp.of_below hB2).cell _ _ R0.out)
    have S1 := hid ((Kp.of_below hB2).cell _ _ R1.out)
    have Z0 := hid z0
    have Z1 := hid z1
    clear hB2 r0 r1 R0 R1 z0 z1 B1
    generalize w1.heap.size = g2 at Z0 Z1 ⊢
    go_loopw [27] (fun x wr => ∃ k : Nat, k ≤ 2 ∧ x = .int .i64 k ∧ (0 < k → termE sig a = 0) ∧ (1 < k → termE sig b = 0) ∧ Below W2.heap.size W2 wr) (fun x _ => 2 - (intOf x).toNat)
    case atStart => exact ⟨0, by omega, rfl, fun h => absurd h (by omega), fun h => absurd h (by omega), Below.refl _ _⟩
    case round =>
      obtain ⟨k, hk, rfl, h0, h1, hbl⟩ := hrel
      have H0 := hid h0
      have H1 := hid h1
      have BL := hid hbl
      clear h0 h1 hbl
      have BLw := hid (below_step B2.out BL.out)
      match k, hk with
      | 0, _ =>
        have z0 := (Kp.of_below BL.out).cell _ _ Z0.out
        go_wp2_with fail
        refine (check_any _ _ sig a wr (HS.out.kp (Kp.of_below BLw.out)) (HA.out.kp (Kp.of_below BLw.out)) (HT.out.below BLw.out) (by omega)).mono ?_
        rintro e w3 ⟨rfl, hb3⟩
        have B3 := hid (below_step BL.out hb3)
        have B3w := hid (below_step BLw.out hb3)
        clear hb3 z0
        by_cases hE2 : termE sig a = 0
        · have HE2 := hid hE2
          rw [hE2]
          clear hE2
          go_wp2
          go_roundw
          case rel => exact ⟨1, by omega, by go_num, fun _ => HE2.out, fun h => absurd h (by omega), B3.out⟩
          case measure => simp [intOf]
        · have HR2 : Hid (fallE sig l a b = termE sig a) := by show _ = _; rw [HR.out, if_neg hE2]
          have HN := hid (fallN_zero (a := a) (b := b) (fun h => hE2 (HR2.out ▸ h)))
          have hne : (termE sig a != 0) = true := by rw [bne_iff_ne]; exact hE2
          clear hE2 HR
          generalize termE sig a = z at hne HR2 ⊢
          go_wp2
          go_ret2
          exact ⟨ret2ii12 HN.out.symm HR2.out.symm, B3w.out⟩
      | 1, _ =>
        have z1 := (Kp.of_below BL.out).cell _ _ Z1.out
        have HTa := hid (H0.out (by omega))
        go_wp2_with fail
        refine (check_any _ _ sig b wr (HS.out.kp (Kp.of_below BLw.out)) (HB.out.kp (Kp.of_below BLw.out)) (HT.out.below BLw.out) (by omega)).mono ?_
        rintro e w3 ⟨rfl, hb3⟩
        have B3 := hid (below_step BL.out hb3)
        have B3w := hid (below_step BLw.out hb3)
        clear hb3 z1
        by_cases hE2 : termE sig b = 0
        · have HE2 := hid hE2
          rw [hE2]
          clear hE2
          go_wp2
          go_roundw
          case rel => exact ⟨2, by omega, by go_num, fun _ => HTa.out, fun _ => HE2.out, B3.out⟩
          case measure => simp [intOf]
        · have HR2 : Hid (fallE sig l a b = termE sig b) := by show _ = _; rw [HR.out, if_pos HTa.out, if_neg hE2]
          have HN := hid (fallN_zero (a := a) (b := b) (fun h => hE2 (HR2.out ▸ h)))
          have hne : (termE sig b != 0) = true := by rw [bne_iff_ne]; exact hE2
          clear hE2 HR
          generalize termE sig b = z at hne HR2 ⊢
          go_wp2
          go_ret2
          exact ⟨ret2ii12 HN.out.symm HR2.out.symm, B3w.out⟩
      | 2, _ =>
        have HTa := hid (H0.out (by omega))
        have HTb := hid (H1.out (by omega))
        have s0 := (Kp.of_below BL.out).cell _ _ S0.out
        have s1 := (Kp.of_below BL.out).cell _ _ S1.out
        have HR2 : Hid (fallE sig l a b = ovE2 (ofV sig l (varsL (a ++ b)) a) (ofV sig l (varsL (a ++ b)) b)) := by show _ = _; rw [HR.out, if_pos HTa.out, if_pos HTb.out]
        clear HR H0 H1 Z0 Z1
        go_wp2_with fail
        refine (sides_any _ _ _ _ sig l a b wr (HS.out.kp (Kp.of_below BLw.out)) (HL.out.kp (Kp.of_below BLw.out)) (HA.out.kp (Kp.of_below BLw.out)) (HB.out.kp (Kp.of_below BLw.out)) HIn.out HTa.out HTb.out hla hlb _ rfl).mono ?_
        rintro e w3 ⟨⟨v1, v2, rfl, hms⟩, hb3⟩
        have B3 := hid (below_step BLw.out hb3)
        rw [← HR2.out] at hms ⊢
        have HMs := hid hms
        clear hms hb3 s0 s1
        by_cases hE2 : fallE sig l a b = 0
        · obtain ⟨hm1, hm2⟩ := HMs.out hE2
          have HE2 := hid hE2
          have HN : Hid (fallN sig l a b = fallP (ovL (ofV sig l (varsL (a ++ b)) a)) (ovL (ofV sig l (varsL (a ++ b)) b))) := by show _ = _; unfold fallN; rw [if_pos hE2]
          have HM1 := hid hm1
          have HM2 := hid hm2
          rw [hE2]
          clear hE2 hm1 hm2 HMs
          go_wp2_with fail
          refine (greater_any _ _ _ _ w3 HM1.out HM2.out).mono ?_
          rintro e w4 ⟨rfl, hb4⟩
          have B4 := hid (below_step B3.out hb4)
          have HM1b := hid (HM1.out.kp (Kp.of_below hb4))
          have HM2b := hid (HM2.out.kp (Kp.of_below hb4))
          clear hb4 HM1 HM2
          generalize ovL (ofV sig l (varsL (a ++ b)) a) = p at HN HM1b ⊢
          generalize ovL (ofV sig l (varsL (a ++ b)) b) = q at HN HM2b ⊢
          cases hg : greaterB p q with
          | true =>
            have HN2 : Hid (fallN sig l a b = 2) := by show _ = _; rw [HN.out]; unfold fallP; rw [if_pos hg]
            clear hg HN
            go_wp2
            go_ret2
            exact ⟨ret2ii12 HN2.out.symm HE2.out.symm, B4.out⟩
          | false =>
            have HN2 : Hid (fallN sig l a b = if atLeastB p q = true then 1 else 0) := by show _ = _; rw [HN.out]; unfold fallP; rw [if_neg (by rw [hg]; decide)]
            clear hg HN
            go_wp2_with fail
            refine (atLeast_any _ _ p q w4 HM1b.out HM2b.out).mono ?_
            rintro e w5 ⟨rfl, hb5⟩
            have B5 := hid (below_step B4.out hb5)
            clear hb5
            cases hg : atLeastB p q with
            | true =>
              have HN3 : Hid (fallN sig l a b = 1) := by show _ = _; rw [HN2.out, if_pos hg]
              clear hg HN2
              go_wp2
              go_ret2
              exact ⟨ret2ii12 HN3.out.symm HE2.out.symm, B5.out⟩
            | false =>
              have HN3 : Hid (fallN sig l a b = 0) := by show _ = _; rw [HN2.out, if_neg (by rw [hg]; decide)]
              clear hg HN2
              go_wp2
              go_ret2
              exact ⟨ret2ii12 HN3.out.symm HE2.out.symm, B5.out⟩
        · have HN := hid (fallN_zero hE2)
          have hne : (fallE sig l a b != 0) = true := by rw [bne_iff_ne]; exact hE2
          obtain ⟨z, hz⟩ : ∃ z, z = fallE sig l a b := ⟨_, rfl⟩
          rw [← hz] at hne ⊢
          have HZ := hid hz
          clear hE2 HMs HR2 hz
          go_wp2
          go_ret2
          exact ⟨ret2ii12 HN.out.symm HZ.out, B3.out⟩
  · have HR : Hid (fallE sig l a b = inE sig l) := by show _ = _; unfold fallE; rw [if_neg hE]
    have HN := hid (fallN_zero (a := a) (b := b) (fun h => hE (HR.out ▸ h)))
    have hne : (inE sig l != 0) = true := by rw [bne_iff_ne]; exact hE
    clear hE
    generalize inE sig l = z at hne HR ⊢
    go_wp2
    go_ret2
    exact ⟨ret2ii12 HN.out.symm HR.out.symm, B1.out⟩

end Go.Proofs.YtlaenbdlgpepkaaGreatDoor
