/- Texts of the proof, one behind the other. -/
import Derived.Test.YtdjmjhlbjcgoiaaGreatDoorOwn17
import Derived.Test.YtdjmjhlbjcgoiaaGreatDoorOwn6
import Derived.Ground.NamesProg
import Derived.Shelf.Sort.Plain
import Derived.Shelf.Slices.In.SortNone
import Derived.Sort.OwnSortedInts
import Derived.Test.YtdjmjhlbjcgoiaaGreatDoorOwn15
import Derived.Test.YtdjmjhlbjcgoiaaGreatDoorOwn5
import Derived.Deep.LoopGhost
set_option maxRecDepth 1000000
set_option maxHeartbeats 6400000
namespace Go.Proofs.YtdjmjhlbjcgoiaaGreatDoor
open Go.RowKit Go.Maps Go.BigFrame
theorem ofS_short {sig : List Sy} {sp vp : Int → List Mn} : ∀ {u : List Int} {st : List (List Mn)}, ofS sig sp vp u = some st → st.length ≤ u.length
 | [], st, h => by cases h; simp
 | c :: u, st, h => by
  cases hu : ofS sig sp vp u with
  | none => rw [ofS_none hu] at h; cases h
  | some s =>
   have ih := ofS_short hu
   by_cases hc : c < 0
   ·rw [ofS_var hu hc] at h
    cases h
    simp only [zG]
    omega
   by_cases h0 : compE (sp c) (s.take (arN sig c)) = 0
   ·rw [ofS_yes hu hc h0] at h
    cases h
    simp only [zG, zI]
    omega
   rw [ofS_no hu hc h0] at h; cases h
theorem run_cut3 {g n lo hi : Nat} (h1 : lo ≤ hi) (h2 : hi ≤ n) : ∃ ao : Option Addr, (0 < hi - lo → ao = some ⟨g, lo, none⟩) ∧
  ∀ w : World, (Instr.slice 49 (.slice (some ⟨g, 0, none⟩) n n) (some (.int .i64 (lo : Int))) (some (.int .i64 (hi : Int))) (some (.int .i64 (hi : Int)))).run Tryz.prog w = .ok (.slice ao (hi - lo) (hi - lo)) w := by
 by_cases h : hi = lo
 ·subst h
  refine ⟨some ⟨g, 0, none⟩, fun h => absurd h (by omega), fun w => ?_⟩
  simp [Instr.slice, run_underlying xGC, Instr.sliceBounds, go_sem]
  intro h
  omega
 refine ⟨some ⟨g, lo, none⟩, fun _ => rfl, fun w => ?_⟩
 simp [Instr.slice, run_underlying xGC, Instr.sliceBounds, go_sem]
 rw [if_pos h2, if_pos h1, if_neg h]
theorem VM.get {w : World} {base b : Nat} {vs : List Int} {c : Int} (h : VM w base b vs vs.length) (hn : vs.Nodup) (hc : -1 - c ∈ vs) : ∃ L u, MapV w b L ∧ L.lookup c = some u ∧ OM w base u (vAt vs c) := by
 obtain ⟨L, m1, m2, m3, m4⟩ := h
 have h1 := idx_get hc
 have h2 := m4 _ _ (zB.1 h1).1 h1
 rw [show -1 - (-1 - c) = c by omega] at h2
 obtain ⟨u, hu⟩ := Option.isSome_iff_exists.1 h2
 obtain ⟨i, i1, i2, i3⟩ := m3 _ _ hu
 refine ⟨L, u, m1, hu, ?_⟩
 unfold vAt
 rw [idx_of hn i2]
 exact i3
theorem xEI (sv tv : Value) (sig : List Sy) (l : List Ip) (vs t : List Int) (base gS b : Nat) (w : World) (hs : Sg w sv sig) (ht : Is w tv t) (hM : MgM w base gS b sig l vs) (hbase : base ≤ w.heap.size) (hin : inE sig l = 0) (hL : ∀ x ∈ l, ∀ m ∈ x.2, Lim m.1) (hrow : rowE sig t = 0) (hvs : ∀ c ∈ t, c < 0 → (-1 - c) ∈ vs) (hnd : vs.Nodup) (hsm : vs.length ≤ 512) (hb : t.length * 24 ≤ 140737488355328) :
  Calls Tryz.prog 47 #[.agg #[sv, .slice (some ⟨gS, 0, none⟩) sig.length sig.length, .map (some b)], tv] w fun e w' =>
   (∃ v', e = .returned (.tuple #[v', .int .i64 (ovE (ofV sig l vs t))]) ∧ OM w' base v' (ovL (ofV sig l vs t))) ∧ Below w.heap.size w w' := by
 obtain ⟨so, sc, rfl, hso, hsc, _⟩ := Row.flat hs
 obtain ⟨ta, tc, rfl, hto, htc, _⟩ := Row.flat ht
 unfold maxLen at hsc htc
 have hsig := (inE_ok hin).1
 have hAr := sigE_ok hsig
 have HAr := hid hAr
 have HFirst := hid (xAI.1 hrow)
 have HSp : Hid (∀ c : Int, 0 ≤ c → c.toNat < sig.length → Ch (spol l c) ∧ varsN (spol l c) ≤ arN sig c) := fun c h0 h1 => (in_spol hin hL h0 h1).2
 have HVp : Hid (∀ c ∈ t, c < 0 → Ch (vAt vs c)) := fun c hc h0 => by
  unfold vAt
  have h1 := idx_get (hvs c hc h0)
  have h2 := (zB.1 h1).1
  exact vpol_ch (by omega)
 have HOne := ofS_one (sp := spol l) (vp := vAt vs) hAr hrow
 have HOv : Hid (∀ p, ofS sig (spol l) (vAt vs) t = some [p] → ofV sig l vs t = some p) := fun p h => ofV_some hsm h
 have HS := hid hs
 have HT := hid ht
 have HMg := hid hM
 have HVs := hid hvs
 have HNd := hid hnd
 have htp : 0 < t.length := by
  cases t with
  | nil => simp [rowE, firstT] at hrow
  | cons c u => simp
 have HOne2 := hid HOne
 clear hs ht hM hin hL hrow hvs hnd HOne hsig hAr
 obtain ⟨W0, hW0⟩ : ∃ X, X = w.alloc (.cells #[.slice so sig.length sc, .slice (some ⟨gS, 0, none⟩) sig.length sig.length, .map (some b)] 85) := ⟨_, rfl⟩
 have B0 : Hid (Below w.heap.size w W0) := by rw [hW0]; exact zA _
 have C0 : Hid (MC W0 w.heap.size (.slice so sig.length sc) gS sig.length b) := by rw [hW0]; exact hid (yU _ _)
 have hmk := xFP W0 t.length (by omega)
 obtain ⟨W1, hW1⟩ : ∃ X, X = W0.alloc (.cells (List.replicate t.length (Value.slice none 0 0)).toArray 31) := ⟨_, rfl⟩
 have B1 : Hid (Below W0.heap.size W0 W1) := by rw [hW1]; exact zA _
 have V1 : Hid (VB W1 W0.heap.size (List.replicate t.length (Value.slice none 0 0))) := by rw [hW1]; exact hid (yU _ _)
 rw [← hW1] at hmk
 clear hW1
 go_enter Tryz.func47, Tryz.ntmps47
 go_upto_region 1 with fail
 rw [← hW0]
 clear hW0
 have C1 := hid (C0.out.later B1.out)
 have BW := hid (zS B0.out B1.out)
 have hgL : w.heap.size ≤ W0.heap.size := B0.out.size
 go_upto_region 3 with fail
 clear hmk B0 B1 C0
 generalize W0.heap.size = gL at V1 hgL ⊢
 generalize hgm : w.heap.size = gm at C1 ⊢
 have HGm := hid hgm
 clear hgm
 go_wp2
 go_loopw [7, 8] (fun x y wr => ∃ (k tp : Nat) (st : List (List Mn)) (vals : List Value), k ≤ t.length ∧ y = .int .i64 ((k : Int) - 1) ∧ x = .int .i64 (tp : Int) ∧ tp + st.length = t.length ∧ ofS sig (spol l) (vAt vs) (t.drop k) = some st ∧ VB wr gL vals ∧ vals.length = t.length ∧ (∀ (i : Nat) p, st[i]? = some p → ∃ u, vals[tp + i]? = some u ∧ OM wr base u p) ∧ MC wr gm (.slice so sig.length sc) gS sig.length b ∧ Below w.heap.size w wr) (fun _ y _ => (intOf y + 1).toNat)
 case atStart => exact ⟨t.length, t.length, [], _, Nat.le_refl _, rfl, rfl, by simp, by rw [List.drop_length]; rfl, V1.out, by simp, fun i p h => (by simp at h), C1.out, BW.out⟩
 case round =>
  clear V1 C1 BW
  obtain ⟨k, tp, st, vals, hk, hy, rfl, htl, hof, hvb, hvl, hst, hmc, hbl⟩ := hrel
  have HOf := hid hof
  have HVB := hid hvb
  have HVl := hid hvl
  have HSt := hid hst
  have HMC := hid hmc
  have BL := hid hbl
  have hsh := ofS_short hof
  rw [zI] at hsh
  clear hof hvb hvl hst hmc hbl
  cases k with
  | zero =>
   have hy0 : u8 = .int .i64 (-1) := hy
   subst hy0
   clear hy
   have hof := HOf.out
   rw [List.drop_zero] at hof
   obtain ⟨p, hp⟩ : ∃ p, st = [p] := by
    rcases HOne2.out with h | ⟨p, h⟩
    ·rw [h] at hof; cases hof
    rw [h] at hof; cases hof; exact ⟨p, rfl⟩
   subst hp
   obtain ⟨u, hu1, hu2⟩ := HSt.out 0 p rfl
   rw [Nat.add_zero] at hu1
   have HR : Hid (ofV sig l vs t = some p) := by exact HOv.out p hof
   have y0 := HVB.out.cell hu1
   have htl2 : tp < t.length := by simp at htl; omega
   obtain ⟨ua, uc, hua⟩ := hu2.slice
   subst hua
   have HO := hid hu2
   clear hof hu1 hu2 htl HSt
   go_wp2
   go_ret2
   rw [HR.out]
   exact ⟨⟨_, rfl, HO.out⟩, BL.out⟩
  | succ j =>
   have hyj : u8 = .int .i64 (j : Int) := by rw [hy]; congr 1; omega
   subst hyj
   clear hy
   have hjt : j < t.length := hk
   obtain ⟨g, off, c, rfl, hc1, hc2, hc3, hc4⟩ := HT.out.at hjt
   have hct := (zK BL.out).cell _ _ hc2
   have hmem : c ∈ t := zD hc1
   have HSpl : Hid (t = t.take j ++ c :: t.drop (j + 1)) := by show _ = _; rw [← xAR hc1, zQ]
   have HDr : Hid (t.drop j = c :: t.drop (j + 1)) := hid (xAR hc1)
   have HF2 : Hid (firstT sig 1 0 (t.take j ++ c :: t.drop (j + 1)) = (((t.take j ++ c :: t.drop (j + 1)).length : Int), 0)) := by show _ = _; rw [← HSpl.out]; exact HFirst.out
   have htp1 : 1 ≤ tp := by omega
   obtain ⟨q, rfl⟩ : ∃ q, tp = q + 1 := ⟨tp - 1, by omega⟩
   clear hc1 hc2 htp1
   by_cases hneg : c < 0
   ·obtain ⟨L, u, hm, hlk, hou⟩ := (HMg.out.var.later BL.out).get HNd.out (HVs.out c hmem hneg)
    obtain ⟨ua, uc, hua⟩ := hou.slice
    subst hua
    have hrun := hm.lookOne under_vmap (zero_monos wr) hc3 hc4 hlk
    have y2 := HMC.out.cells.2.2
    have hq : q < vals.length := by rw [HVl.out]; omega
    have hcq := HVB.out.cell (zC hq)
    have hfr := HVB.out.frozen q
    have HO := hid hou
    have HNew : Hid (ofS sig (spol l) (vAt vs) (t.drop j) = some (vAt vs c :: st)) := by show _ = _; rw [HDr.out]; exact ofS_var HOf.out hneg
    have hql : q < t.length := by omega
    have htl2 : q + (st.length + 1) = t.length := by omega
    have HTl := hid htl2
    clear hm hlk hou hmem hsh htl htl2
    go_wp2
    go_roundw
    case rel =>
     refine ⟨j, q, vAt vs c :: st, _, by omega, by go_num, rfl, HTl.out, HNew.out, HVB.out.set _ _, by rw [yF]; exact HVl.out, fun i p hi => ?_, HMC.out.setVB HVB.out, BL.out.setCell (p := ⟨gL, q, none⟩) (by rw [← HGm.out] at *; exact hgL) _⟩
     cases i with
     | zero =>
      simp at hi
      subst hi
      exact ⟨_, by rw [Nat.add_zero, List.getElem?_set_self hq], HO.out.setVB HVB.out⟩
     | succ i =>
      rw [yP] at hi
      obtain ⟨x, x1, x2⟩ := HSt.out i p hi
      refine ⟨x, ?_, x2.setVB HVB.out⟩
      rw [List.getElem?_set_ne (by omega), ← x1]
      congr 1
      omega
    case measure => simp [intOf] <;> omega
   obtain ⟨ci, rfl⟩ := Int.eq_ofNat_of_zero_le (Int.not_lt.1 hneg)
   obtain ⟨k1, k2, k3⟩ := ofS_big HAr.out HSp.out HF2.out (fun d hd h0 => HVp.out d (List.mem_of_mem_drop hd) h0) HOf.out hneg
   rw [Int.toNat_natCast] at k1
   obtain ⟨gs, os, sn, ar, rfl, hsm2, _, hsa, hal, hau, _⟩ := HS.out.at k1
   have har := HAr.out _ (zD hsm2)
   simp only at har
   obtain ⟨an, rfl⟩ := Int.eq_ofNat_of_zero_le har.1
   have hAn : arN sig (ci : Int) = an := by unfold arN; rw [Int.toNat_natCast, hsm2]; rfl
   rw [hAn] at k2 k3
   have HAn := hid hAn
   have x2 := (zK BL.out).cell _ _ hsa
   have y0 := HMC.out.cells.1
   have y1 := HMC.out.cells.2.1
   have hbn : q + 1 + an ≤ t.length := by omega
   have hcn : decide ((ci : Int) < 0) = false := decide_eq_false (by omega)
   clear hAn hsm2 hsa hal hau hmem hneg har
   go_upto_region 11 with fail
   clear hct x2 y0
   obtain ⟨pv, hpv1, hpv2⟩ : ∃ u, (∃ vals2, VB wr gS vals2 ∧ vals2[ci]? = some u) ∧ Ms wr u (spol l (ci : Int)) := by
    obtain ⟨vals2, v1, _, v3⟩ := HMg.out.sym
    obtain ⟨u, u1, u2⟩ := v3 ci k1
    exact ⟨u, ⟨vals2, v1.later BL.out, u1⟩, u2.kp (zK BL.out)⟩
   obtain ⟨vals2, v1, v2⟩ := hpv1
   obtain ⟨a1, c1, rfl, hp1, hp2, _⟩ := Row.flat hpv2
   unfold maxLen at hp2
   have y3 := v1.cell v2
   obtain ⟨ao, hao, hsl⟩ := run_cut3 (g := gL) (n := t.length) (lo := q + 1) (hi := q + 1 + an) (by omega) hbn
   rw [show q + 1 + an - (q + 1) = an by omega] at hao hsl
   have HPs : Hid (Ps wr (.slice ao an an) (st.take an)) := by
    by_cases h0 : an = 0
    ·subst h0
     exact hid (Row.nil (by unfold maxLen; omega))
    rw [hao (by omega)]
    refine hid (HVB.out.ps (by rw [zH, Nat.min_eq_left k2]) (Nat.le_refl _) (by unfold maxLen; omega) (fun i p hi => ?_))
    rw [List.getElem?_take] at hi
    split at hi
    ·obtain ⟨x, x1, x2⟩ := HSt.out i p hi
     exact ⟨x, x1, x2.ms⟩
    cases hi
   have HPv := hid hpv2
   have HSl : Hid (∀ w : World, (Instr.slice 49 (.slice (some ⟨gL, 0, none⟩) t.length t.length) (some (.int .i64 ((q : Int) + 1))) (some (.int .i64 ((q : Int) + 1 + (an : Int)))) (some (.int .i64 ((q : Int) + 1 + (an : Int))))).run Tryz.prog w = .ok (.slice ao an an) w) := fun w => by
    have h9 := hsl w
    rw [show ((q + 1 + an : Nat) : Int) = (q : Int) + 1 + (an : Int) by omega, show ((q + 1 : Nat) : Int) = (q : Int) + 1 by omega] at h9
    exact h9
   clear hpv2 hsl hao v1 v2
   have hS : Kp wr wr.drew := zK (xAG wr)
   refine wp_region_held_drew (S := fun w' => Kp wr w') (by kernel_rfl) hS (fun _ => ?_)
   obtain ⟨W0, hW0⟩ : ∃ X, X = wr.drew := ⟨_, rfl⟩
   have bW0 : Below wr.heap.size wr W0 := by rw [hW0]; exact xAG wr
   rw [← hW0] at hS ⊢
   clear hW0
   refine wpAnyH_take (i := 0) (v := .pointer (some ⟨gm, 1, none⟩)) rfl (by kernel_rfl) (by kernel_rfl) (by kernel_rfl) (fun _ _ _ h => h) (Or.inl ⟨by rfl, fun w' h => by go_simp⟩) hS ?_
   try simp only [Act.put, sA]
   refine wpAnyH_take (i := 1) (v := .slice (some ⟨gS, 0, none⟩) sig.length sig.length) rfl (by kernel_rfl) (by kernel_rfl) (by kernel_rfl) (fun _ _ _ h => h) (Or.inl ⟨by rfl, fun w' h => by have hh := h.cell _ _ y1; go_simp⟩) hS ?_
   try simp only [Act.put]
   refine wpAnyH_take (i := 2) (v := .int .i64 (ci : Int)) rfl (by kernel_rfl) (by kernel_rfl) (by kernel_rfl) (fun _ _ _ h => h) (Or.inl ⟨by rfl, fun w' h => by go_simp⟩) hS ?_
   try simp only [Act.put]
   refine wpAnyH_take (i := 3) (v := .pointer (some ⟨gS, ci, none⟩)) rfl (by kernel_rfl) (by kernel_rfl) (by kernel_rfl) (fun _ _ _ h => h) (Or.inl ⟨by rfl, fun w' h => by go_simp⟩) hS ?_
   try simp only [Act.put]
   refine wpAnyH_take (i := 4) (v := .slice a1 (spol l (ci : Int)).length c1) rfl (by kernel_rfl) (by kernel_rfl) (by kernel_rfl) (fun _ _ _ h => h) (Or.inl ⟨by rfl, fun w' h => by have hh := h.cell _ _ y3; go_simp⟩) hS ?_
   try simp only [Act.put]
   refine wpAnyH_take (i := 5) (v := .slice (some ⟨gL, 0, none⟩) t.length t.length) rfl (by kernel_rfl) (by kernel_rfl) (by kernel_rfl) (fun _ _ _ h => h) (Or.inl ⟨by rfl, fun w' h => by go_simp⟩) hS ?_
   try simp only [Act.put]
   refine wpAnyH_take (i := 6) (v := .int .i64 ((q : Int) + 1)) rfl (by kernel_rfl) (by kernel_rfl) (by kernel_rfl) (fun _ _ _ h => h) (Or.inl ⟨by rfl, fun w' h => by go_simp⟩) hS ?_
   try simp only [Act.put]
   refine wpAnyH_take (i := 7) (v := .int .i64 ((q : Int) + 1 + (an : Int))) rfl (by kernel_rfl) (by kernel_rfl) (by kernel_rfl) (fun _ _ _ h => h) (Or.inl ⟨by rfl, fun w' h => by go_simp⟩) hS ?_
   try simp only [Act.put]
   refine wpAnyH_take (i := 8) (v := .int .i64 ((q : Int) + 1 + (an : Int))) rfl (by kernel_rfl) (by kernel_rfl) (by kernel_rfl) (fun _ _ _ h => h) (Or.inl ⟨by rfl, fun w' h => by go_simp⟩) hS ?_
   try simp only [Act.put]
   refine wpAnyH_take (i := 9) (v := .slice ao an an) rfl (by kernel_rfl) (by kernel_rfl) (by kernel_rfl) (fun _ _ _ h => h) (Or.inl ⟨by rfl, fun w' h => by have hh := HSl.out w'; go_simp⟩) hS ?_
   try simp only [Act.put]
   refine wpAnyH_ready (rs := [10]) (by kernel_rfl) (by simp) (AllReadyH.cons rfl (fun K hK => ?_) (AllReadyH.nil))
   go_simp
   refine (compose_any _ _ (spol l (ci : Int)) (st.take an) W0 (HPv.out.kp hS) (HPs.out.kp hS)).mono ?_
   rintro e w4 ⟨v4, rfl, ho4, hb4⟩
   have b4 := zS bW0 hb4
   have hS4 : Kp wr w4 := zK b4
   refine hK.out _ _ hS4 (fun _ => ?_)
   clear hK K hS
   have hS := hS4
   clear hS4
   have hb0 : base ≤ W0.heap.size := Nat.le_trans hbase (Nat.le_trans BL.out.size bW0.size)
   obtain ⟨v4a, v4c, hv4⟩ := ho4.slice
   have HO4 := hid (ho4.mono hb0)
   clear ho4
   subst hv4
   generalize hlen : (compL (spol l (ci : Int)) (st.take an)).length = n4 at HO4 ⊢
   clear hlen
   generalize hz : compE (spol l (ci : Int)) (st.take an) = z at k3 ⊢
   have HZ := hid hz
   clear hz
   try simp only [Act.put, sA, sB, sC]
   refine wpAnyH_take (i := 11) (v := .tuple #[.slice v4a n4 v4c, .int .i64 z]) rfl (by kernel_rfl) (by kernel_rfl) (by kernel_rfl) (fun _ _ _ h => h) (Or.inl ⟨by rfl, fun w' h => by go_simp⟩) hS ?_
   try simp only [Act.put, sA]
   refine wpAnyH_take (i := 12) (v := .slice v4a n4 v4c) rfl (by kernel_rfl) (by kernel_rfl) (by kernel_rfl) (fun _ _ _ h => h) (Or.inl ⟨by rfl, fun w' h => by go_simp⟩) hS ?_
   try simp only [Act.put]
   refine wpAnyH_take (i := 13) (v := .int .i64 z) rfl (by kernel_rfl) (by kernel_rfl) (by kernel_rfl) (fun _ _ _ h => h) (Or.inl ⟨by rfl, fun w' h => by go_simp⟩) hS ?_
   try simp only [Act.put]
   refine wpAnyH_take (i := 14) (v := .slice v4a n4 v4c) rfl (by kernel_rfl) (by kernel_rfl) (by kernel_rfl) (fun _ _ _ h => h) (Or.inl ⟨by rfl, fun w' h => by go_simp⟩) hS ?_
   try simp only [Act.put]
   refine wpAnyH_take (i := 15) (v := .int .i64 z) rfl (by kernel_rfl) (by kernel_rfl) (by kernel_rfl) (fun _ _ _ h => h) (Or.inl ⟨by rfl, fun w' h => by go_simp⟩) hS ?_
   try simp only [Act.put]
   refine wpAnyH_done (by kernel_rfl) ?_ _
   have B4 := hid (zS BL.out b4)
   have V4 := hid (HVB.out.later b4)
   have M4 := hid (HMC.out.later b4)
   have HSt4 : Hid (∀ (i : Nat) p, st[i]? = some p → ∃ u, vals[q + 1 + i]? = some u ∧ OM w4 base u p) := fun i p hi => by
    obtain ⟨x, x1, x2⟩ := HSt.out i p hi
    exact ⟨x, x1, x2.later b4⟩
   clear hS HSt HVB HMC BL bW0 hb4 b4 HPs HPv HSl y1 y3 hp1 hp2
   try simp only [sD, sE, sF, sA, sC, sB]
   have hneg : ¬ (ci : Int) < 0 := by omega
   rcases k3 with h0 | h2
   ·subst h0
    have HNew : Hid (ofS sig (spol l) (vAt vs) (t.drop j) = some (compL (spol l (ci : Int)) (st.take an) :: st.drop an)) := by
     have h9 := ofS_yes (sp := spol l) HOf.out hneg (by rw [HAn.out]; exact HZ.out)
     rw [HAn.out] at h9
     show _ = _
     rw [HDr.out]
     exact h9
    have hq : q + an < vals.length := by rw [HVl.out]; omega
    have hcq := V4.out.cell (zC hq)
    have hfr := V4.out.frozen (q + an)
    have hql : q + an < t.length := by omega
    have htl2 : q + an + (st.length - an + 1) = t.length := by omega
    have HTl : Hid (q + an + (compL (spol l (ci : Int)) (st.take an) :: st.drop an).length = t.length) := by show _ = _; rw [zG, zI]; exact htl2
    clear hsh htl htl2 hcn hneg
    go_wp2
    go_roundw
    case rel =>
     refine ⟨j, q + an, _, _, by omega, by go_num, by go_num, HTl.out, HNew.out, V4.out.set _ _, by rw [yF]; exact HVl.out, fun i p hi => ?_, M4.out.setVB V4.out, B4.out.setCell (p := ⟨gL, q + an, none⟩) (by rw [← HGm.out] at *; exact hgL) _⟩
     cases i with
     | zero =>
      simp at hi
      subst hi
      exact ⟨_, by rw [Nat.add_zero, List.getElem?_set_self hq], HO4.out.setVB V4.out⟩
     | succ i =>
      rw [yP, List.getElem?_drop] at hi
      obtain ⟨x, x1, x2⟩ := HSt4.out _ p hi
      refine ⟨x, ?_, x2.setVB V4.out⟩
      rw [List.getElem?_set_ne (by omega), ← x1]
      congr 1
      omega
    case measure => simp [intOf] <;> omega
   subst h2
   have HNone : Hid (ofV sig l vs t = none) := by
    have h9 := ofS_no (sp := spol l) HOf.out hneg (by rw [HAn.out, HZ.out]; decide)
    rw [← HDr.out] at h9
    have h8 := ofS_noneL h9 (t.take j)
    rw [zQ] at h8
    exact hid (ofV_none h8)
   clear hneg hcn
   go_wp2
   go_ret2
   rw [HNone.out]
   exact ⟨⟨_, rfl, OM.nil _ _⟩, B4.out⟩
def sortI (xs : List Int) : List Int := xs.mergeSort fun x y => decide (x ≤ y)
theorem sortI_len (xs : List Int) : (sortI xs).length = xs.length := by unfold sortI; simp
theorem xDC (xs : List Int) (x : Int) : x ∈ sortI xs ↔ x ∈ xs := by unfold sortI; simp
def Tryz.sortLayI_ren : Go.Shelf.Ren := ⟨fun | 189 => 170 | 125 => 156 | 257 => 193 | 128 => 179 | 129 => 180 | 294 => 206 | 295 => 207 | 296 => 208 | 297 => 209 | 298 => 210 | 299 => 211 | 216 => 212 | 300 => 213 | 301 => 214 | 328 => 217 | 329 => 199 | 330 => 200 | 331 => 218 | 332 => 219 | 215 => 131 | 343 => 221 | n => n, fun | 28 => 30 | 3 => 3 | 46 => 204 | 0 => 0 | 51 => 38 | 53 => 207 | 4 => 4 | 183 => 240 | 182 => 239 | 131 => 180 | 5 => 5 | 9 => 9 | 218 => 256 | 222 => 260 | 228 => 267 | 229 => 268 | n => n, fun | n => n⟩
theorem Tryz.sortLayI : Go.Proofs.Lays.n189 Tryz.prog Tryz.sortLayI_ren := {
  mixed := by kernel_rfl
  f125 := Tryz.func156.trans (congrArg some (by kernel_rfl))
  f128 := Tryz.func179.trans (congrArg some (by kernel_rfl))
  f129 := Tryz.func180.trans (congrArg some (by kernel_rfl))
  f189 := Tryz.func170.trans (congrArg some (by kernel_rfl))
  f215 := Tryz.func131.trans (congrArg some (by kernel_rfl))
  f216 := Tryz.func212.trans (congrArg some (by kernel_rfl))
  f257 := Tryz.func193.trans (congrArg some (by kernel_rfl))
  f294 := Tryz.func206.trans (congrArg some (by kernel_rfl))
  f295 := Tryz.func207.trans (congrArg some (by kernel_rfl))
  f296 := Tryz.func208.trans (congrArg some (by kernel_rfl))
  f297 := Tryz.func209.trans (congrArg some (by kernel_rfl))
  f298 := Tryz.func210.trans (congrArg some (by kernel_rfl))
  f299 := Tryz.func211.trans (congrArg some (by kernel_rfl))
  f300 := Tryz.func213.trans (congrArg some (by kernel_rfl))
  f301 := Tryz.func214.trans (congrArg some (by kernel_rfl))
  f328 := Tryz.func217.trans (congrArg some (by kernel_rfl))
  f329 := Tryz.func199.trans (congrArg some (by kernel_rfl))
  f330 := Tryz.func200.trans (congrArg some (by kernel_rfl))
  f331 := Tryz.func218.trans (congrArg some (by kernel_rfl))
  f332 := Tryz.func219.trans (congrArg some (by kernel_rfl))
  f343 := Tryz.func221.trans (congrArg some (by kernel_rfl))
  t0 := Tryz.underlying0
  a0 := Tryz.isAgg0
  z0 := Tryz.sizeOf0
  v0 := Tryz.zeroValue0
  t3 := Tryz.underlying3
  a3 := Tryz.isAgg3
  z3 := Tryz.sizeOf3
  v3 := Tryz.zeroValue3
  t4 := Tryz.underlying4
  a4 := Tryz.isAgg4
  z4 := Tryz.sizeOf4
  v4 := Tryz.zeroValue4
  t5 := Tryz.underlying5
  a5 := Tryz.isAgg5
  z5 := Tryz.sizeOf5
  v5 := Tryz.zeroValue5
  t9 := Tryz.underlying9
  a9 := Tryz.isAgg9
  z9 := Tryz.sizeOf9
  v9 := Tryz.zeroValue9
  t28 := Tryz.underlying30
  a28 := Tryz.isAgg30
  z28 := Tryz.sizeOf30
  v28 := Tryz.zeroValue30
  t46 := Tryz.underlying204
  a46 := Tryz.isAgg204
  z46 := Tryz.sizeOf204
  v46 := Tryz.zeroValue204
  t51 := Tryz.underlying38
  a51 := Tryz.isAgg38
  z51 := Tryz.sizeOf38
  v51 := Tryz.zeroValue38
  t53 := Tryz.underlying207
  a53 := Tryz.isAgg207
  z53 := Tryz.sizeOf207
  v53 := Tryz.zeroValue207
  t131 := Tryz.underlying180
  a131 := Tryz.isAgg180
  z131 := Tryz.sizeOf180
  v131 := Tryz.zeroValue180
  t182 := Tryz.underlying239
  a182 := Tryz.isAgg239
  z182 := Tryz.sizeOf239
  v182 := Tryz.zeroValue239
  t183 := Tryz.underlying240
  a183 := Tryz.isAgg240
  z183 := Tryz.sizeOf240
  v183 := Tryz.zeroValue240
  t218 := Tryz.underlying256
  a218 := Tryz.isAgg256
  z218 := Tryz.sizeOf256
  v218 := Tryz.zeroValue256
  t222 := Tryz.underlying260
  a222 := Tryz.isAgg260
  z222 := Tryz.sizeOf260
  v222 := Tryz.zeroValue260
  t228 := Tryz.underlying267
  a228 := Tryz.isAgg267
  z228 := Tryz.sizeOf267
  v228 := Tryz.zeroValue267
  t229 := Tryz.underlying268
  a229 := Tryz.isAgg268
  z229 := Tryz.sizeOf268
  v229 := Tryz.zeroValue268 }
theorem sortI_any (v : Value) (xs : List Int) (w : World) (base : Nat) (ho : OwI w base v xs) (hn : xs.length < 4611686018427387904) :
  Calls Tryz.prog 170 #[v] w fun e w' => e = .returned (.tuple #[]) ∧ OwI w' base v (sortI xs) ∧ w.grownBy w' v.ownBlock := by
 have hz : ZI (sortI xs) := fun k x hk => by
  obtain ⟨j, hj⟩ := List.getElem?_of_mem ((xDC xs x).1 (zD hk))
  exact ho.1 j x hj
 rcases ho.2.2 with ⟨rfl, h0⟩ | ⟨g, cap, cur, rfl, hb, hg, hc, hm, hs, ht⟩
 ·obtain rfl : xs = [] := zE h0
  have hcon := Any.slices_Sort_int_none Tryz.sortLayI none 0 w
  change Calls Tryz.prog 170 _ _ _ at hcon
  refine hcon.mono ?_
  rintro e w' ⟨rfl, rfl⟩
  exact ⟨rfl, by simpa [sortI] using ho, World.grownBy.refl _ _⟩
 rw [Nat.mul_one] at ht
 have hcon := Any.slices_Sort_int Tryz.sortLayI g 0 cap xs w (holds_of_blockI hg ht) (zL.1 hg).1 hn
 change Calls Tryz.prog 170 _ _ _ at hcon
 refine hcon.mono ?_
 rintro e w' ⟨rfl, n, os, rfl⟩
 refine ⟨rfl, ⟨hz, ?_⟩, grownBy_sortedI _⟩
 have := ownsRow_sortedI (n := n) (os := os) (sortI_len xs) hb hg hc hm hs
 rw [sortI_len]
 exact this
theorem risingBinds_any (f : Int → Option (List Int)) (b : Nat) (L : List (Int × Value)) (vv : Value) (xs : List Int) (wB w : World) (hb0 : Below wB.heap.size wB w) (ho : OwI w wB.heap.size vv xs) (hm : MapV w b L) (hb : b < wB.heap.size)
  (hL : ∀ x ∈ xs, ∃ v u, L.lookup x = some v ∧ f x = some u ∧ Is wB v u ∧ 0 < u.length ∧ u.length * 8 ≤ 140737488351232) (hl : xs.length * 32 ≤ 140737488351232) :
  Calls Tryz.prog 135 #[vv, .map (some b)] w fun e w' => ∃ v', e = .returned v' ∧ OBW wB.heap.size w' v' ((sortI xs).map fun n => (n, (f n).getD [])) ∧ Below wB.heap.size wB w' := by
 have hlen := sortI_len xs
 obtain ⟨ys, hys⟩ : ∃ ys, ys = sortI xs := ⟨_, rfl⟩
 have hLy : ∀ x ∈ ys, ∃ v u, L.lookup x = some v ∧ f x = some u ∧ Is wB v u ∧ 0 < u.length ∧ u.length * 8 ≤ 140737488351232 := fun x hx => hL x (by rw [hys, xDC] at hx; exact hx)
 have HO := hid ho
 have HM := hid hm
 have HL := hid hLy
 have HB0 := hid hb0
 have HYs := hid hys
 rw [← hys] at hlen ⊢
 have hl2 : ys.length * 32 ≤ 140737488351232 := by omega
 clear ho hm hL hb0 hLy
 go_enter Tryz.func135, Tryz.ntmps135
 go_wp2_with fail
 refine (sortI_any vv xs w _ HO.out (by omega)).mono ?_
 rintro e w1 ⟨rfl, ho1, hg1⟩
 rw [← hys] at ho1
 have hne : vv.ownBlock ≠ some b := fun h => by have := own_blk HO.out.2 h; omega
 have HM1 := hid (HM.out.kept hg1 hne)
 have HB1 : Hid (Below wB.heap.size wB w1) := HB0.out.grown hg1 HB0.out.size (fun j hj => own_blk HO.out.2 hj)
 obtain ⟨ao, cap, hvv, hc1, hc2⟩ := ho1.shape
 subst hvv
 have HO1 := hid ho1
 clear ho1 hg1 hne HO HM HB0 hys hlen hl
 unfold maxLen at hc2
 go_wp2
 go_loopw [5, 12] (fun x i wr => ∃ k : Nat, k ≤ ys.length ∧ i = .int .i64 k ∧ OBW wB.heap.size wr x ((ys.take k).map fun n => (n, (f n).getD [])) ∧ OwI wr wB.heap.size (.slice ao ys.length cap) ys ∧ MapV wr b L ∧ Below wB.heap.size wB wr) (fun _ i _ => ys.length - (intOf i).toNat)
 case atStart => exact ⟨0, Nat.zero_le _, rfl, OBW.nil _ _, HO1.out, HM1.out, HB1.out⟩
 case round =>
  obtain ⟨k, hk, rfl, hob, hov, hmr, hbr⟩ := hrel
  clear HO1 HM1 HB1
  by_cases hlt : k < ys.length
  ·obtain ⟨g, off, y, rfl, hyk, hcy, hy1, hy2⟩ := hov.is.at hlt
   obtain ⟨v, u, hlk, hfu, hiv, hu0, hu8⟩ := HL.out y (zD hyk)
   have hrl := hmr.lookOne under_mapI (zero_rowI wr) hy1 hy2 hlk
   have HRl := hid hrl
   have HOb := hid hob
   have HOv := hid hov
   have HMr := hid hmr
   have HBr := hid hbr
   have HIv := hid (hiv.kp (zK hbr))
   have HTk : Hid ((ys.take (k + 1)).map (fun n => (n, (f n).getD [])) = (ys.take k).map (fun n => (n, (f n).getD [])) ++ [(y, u)]) := by
    show _ = _
    rw [xAM hyk, yI]
    simp [hfu]
   have HTl : Hid (((ys.take k).map fun n => (n, (f n).getD [])).length = k) := by show _ = _; rw [zJ, zH]; omega
   clear hob hov hmr hbr hiv hrl hyk hlk hfu
   go_wp2_with (first
    | (at_lookup; refine xAT rfl _ _ _ _ rfl _ _ _ rfl rfl HRl.out ?_))
   clear HRl
   refine (cloneI_any v u wr HIv.out hu0 (by omega)).mono ?_
   rintro e w2 ⟨v2, rfl, ho2, hb2⟩
   obtain ⟨a2, c2, hv2, _⟩ := ho2.shape
   subst hv2
   obtain ⟨v6, w6, hr6, ho6, hg6, hj6⟩ := OBW.snoc 124 (x := y) (t := u) (HOb.out.later hb2) (by have := hb2.size; have := HBr.out.size; omega) ⟨ho2.mono (HBr.out.size), hy1, hy2, hu8⟩ (by rw [HTl.out]; omega)
   have hba := zS hb2 (zA (.cells #[.int .i64 y, .slice a2 u.length c2] 229))
   have hBa := zS HBr.out hba
   have HO6 := hid ho6
   have HR6 := hid hr6
   have HB6 : Hid (Below wB.heap.size wB w6) := hBa.grown hg6 hBa.size (fun j hj => (hj6 j hj).1)
   have HV6 : Hid (OwI w6 wB.heap.size (.slice (some ⟨g, off, none⟩) ys.length cap) ys) := (HOv.out.later hba).kept hg6 (by
    obtain ⟨us9, _, _, h9⟩ := HOb.out
    exact xCD HOv.out.2 h9 (by decide))
   have HM6 : Hid (MapV w6 b L) := (HMr.out.later hba).kept hg6 (fun h => by have := (hj6 _ h).1; omega)
   clear hr6 ho6 hg6 hj6 hba hBa ho2 hb2 hcy HOb HOv HMr HIv
   go_wp2_with (first
    | (at_builtin; refine xAL rfl _ _ _ rfl _ _ rfl rfl HR6.out ?_))
   go_roundw
   case measure => simp only [intOf]; omega
   case rel => exact ⟨k + 1, hlt, by go_num, by rw [HTk.out]; exact HO6.out, HV6.out, HM6.out, HB6.out⟩
  have HF : Hid (ys.take k = ys) := zO (by omega)
  have HOb := hid hob
  have HBr := hid hbr
  clear hob hov hmr hbr
  go_wp2
  go_ret
  exact ⟨_, rfl, by have h9 := HOb.out; rw [HF.out] at h9; exact h9, HBr.out⟩
theorem sortI_rise {xs : List Int} (h : xs.Nodup) : (sortI xs).Pairwise (· < ·) := by
 have h1 : (sortI xs).Pairwise (fun a b => decide (a ≤ b) = true) := List.pairwise_mergeSort (fun a b c => by simp; omega) (fun a b => by simp; omega) xs
 have h2 : (sortI xs).Nodup := (List.mergeSort_perm xs _).symm.nodup h
 refine (h1.and h2).imp ?_
 rintro a b ⟨h3, h4⟩
 have h5 : a ≤ b := by simpa using h3
 have h6 : a ≠ b := h4
 omega
theorem vars_once (t : List Int) : (varsL t).Nodup := by
 unfold varsL
 refine List.Pairwise.map _ ?_ (met_once t [] (by simp))
 intro a b hab e
 omega
def termsB (sig : List Sy) (l : List (List Int)) : Bool := l.all fun t => decide (termE sig t = 0)
theorem termsB_take {sig : List Sy} {l : List (List Int)} {k : Nat} {t : List Int} (h : l[k]? = some t) : termsB sig (l.take (k + 1)) = (termsB sig (l.take k) && decide (termE sig t = 0)) := by
 unfold termsB
 rw [xAM h, List.all_append]
 simp
theorem termsB_no {sig : List Sy} {l : List (List Int)} {k : Nat} {t : List Int} (h : l[k]? = some t) (hn : termE sig t ≠ 0) : termsB sig l = false := by
 unfold termsB
 rw [List.all_eq_false]
 exact ⟨t, zD h, by simpa using hn⟩
theorem areTerms_any (sv rv : Value) (sig : List Sy) (l : List (List Int)) (w : World) (hs : Sg w sv sig) (h : Rs w rv l) (hT : Tabs w) :
  Calls Tryz.prog 132 #[sv, rv] w fun e w' => e = .returned (.bool (termsB sig l)) ∧ Below w.heap.size w w' := by
 obtain ⟨ao, cap, rfl, hao, hca, _⟩ := Row.flat h
 unfold maxLen at hca
 have HS := hid hs
 have HR := hid h
 have HT := hid hT
 clear hs h hT
 go_enter Tryz.func132, Tryz.ntmps132
 go_wp2
 go_loopw [9] (fun i wr => ∃ k : Nat, k ≤ l.length ∧ i = .int .i64 k ∧ termsB sig (l.take k) = true ∧ Below w.heap.size w wr) (fun i _ => l.length - (intOf i).toNat)
 case atStart => exact ⟨0, Nat.zero_le _, rfl, rfl, Below.refl _ _⟩
 case round =>
  obtain ⟨k, hk, rfl, hall, hbl⟩ := hrel
  have HAll := hid hall
  have HB := hid hbl
  clear hall
  by_cases hlt : k < l.length
  ·obtain ⟨g, off, a, t, c, rfl, hm, hc, hit, hl8⟩ := HR.out.at hlt
   have hcr := (zK hbl).cell _ _ hc
   have HM := hid hm
   have HIt := hid (hit.kp (zK hbl))
   clear hm hit hbl hc
   go_wp2_with fail
   refine (xBP _ _ sig t wr (HS.out.kp (zK HB.out)) HIt.out (HT.out.below HB.out) hl8).mono ?_
   rintro e w2 ⟨rfl, hb2⟩
   have HB2 := hid (zS HB.out hb2)
   clear hcr hb2
   by_cases h0 : termE sig t = 0
   ·rw [h0]
    have HA2 : Hid (termsB sig (l.take (k + 1)) = true) := by show _ = _; rw [termsB_take HM.out, HAll.out, h0]; rfl
    clear h0
    go_wp2
    go_roundw
    case measure => simp only [intOf]; omega
    case rel => exact ⟨k + 1, hlt, by go_num, HA2.out, HB2.out⟩
   have HN := hid (termsB_no HM.out h0)
   have hne : (termE sig t != 0) = true := by simpa using h0
   clear h0
   go_wp2
   go_ret
   exact ⟨by have h9 := HN.out; simp [h9], HB2.out⟩
  have HF : Hid (termsB sig l = true) := by
   have h9 := HAll.out
   rw [zO (by omega)] at h9
   exact h9
  go_wp2
  go_ret
  exact ⟨by have h9 := HF.out; simp [h9], HB.out⟩
def nodes (sig : List Sy) (t : List Int) (i : Nat) : Nat := (firstT sig 1 0 (t.drop i)).1.toNat
theorem first_more {sig : List Sy} (q : List Int) : ∀ (r : List Int) (m : Int) (i : Nat) (n : Int), firstT sig m i r = (n, 0) → firstT sig m i (r ++ q) = (n, 0)
 | [], m, i, n, h => by simp [firstT] at h
 | c :: r, m, i, n, h => by
  rw [yG, xAJ]
  rw [xAJ] at h
  cases hc : codeD sig c with
  | none => rw [hc] at h; simp at h
  | some e =>
   rw [hc] at h
   simp only at h ⊢
   by_cases h0 : m + e = 0
   ·rw [if_pos h0] at h ⊢; exact h
   rw [if_neg h0] at h ⊢; exact first_more q r (m + e) (i + 1) n h
theorem first_at {sig : List Sy} (ha : ArOk sig) : ∀ (v : List Int) (m : Int) (j i : Nat), 1 ≤ m → firstT sig m j v = ((j : Int) + v.length, 0) → i < v.length → ∃ m' : Int, 1 ≤ m' ∧ firstT sig m' (j + i) (v.drop i) = ((j : Int) + v.length, 0)
 | v, m, j, 0, hm, h, _ => ⟨m, hm, h⟩
 | [], m, j, i + 1, _, _, hi => by simp at hi
 | c :: v, m, j, i + 1, hm, h, hi => by
  rw [xAJ] at h
  cases hc : codeD sig c with
  | none => rw [hc] at h; simp at h
  | some e =>
   have he := xDP ha hc
   rw [hc] at h
   simp only at h
   by_cases h0 : m + e = 0
   ·rw [if_pos h0] at h
    have := congrArg Prod.fst h
    simp only [zG] at this hi
    omega
   rw [if_neg h0] at h
   obtain ⟨m', h1, h2⟩ := first_at ha v (m + e) (j + 1) i (by omega) (by rw [h]; simp only [zG, Prod.mk.injEq, and_true]; omega) (by simpa using hi)
   refine ⟨m', h1, ?_⟩
   rw [List.drop_succ_cons, show j + (i + 1) = j + 1 + i by omega, h2]
   simp only [zG, Prod.mk.injEq, and_true]
   omega
theorem at_place {sig : List Sy} (ha : ArOk sig) {v : List Int} (h : rowE sig v = 0) {i : Nat} (hi : i < v.length) :
  1 ≤ nodes sig v i ∧ i + nodes sig v i ≤ v.length ∧ firstT sig 1 0 (v.drop i) = ((nodes sig v i : Int), 0) ∧ rowE sig ((v.drop i).take (nodes sig v i)) = 0 := by
 obtain ⟨m', h1, h2⟩ := first_at ha v 1 0 i (by omega) (by rw [xAI.1 h]; simp) hi
 obtain ⟨k, k1, k2, k3, _, _⟩ := first_part ha (v.drop i) 1 m' 0 (0 + i) (by omega) h1 (by rw [h2, zI]; simp only [Prod.mk.injEq, and_true]; omega)
 have hn : nodes sig v i = k := by unfold nodes; rw [k3]; simp
 rw [hn]
 rw [zI] at k2
 have k3' : firstT sig 1 0 (v.drop i) = ((k : Int), 0) := by rw [k3]; simp
 refine ⟨k1, by omega, k3', ?_⟩
 obtain ⟨k', e1, _, _, e4⟩ := xEA (v.drop i) 1 0 _ k3'
 have : k' = k := by omega
 subst this
 rw [xAI, e4, zH, zI]
 simp only [Prod.mk.injEq, and_true]
 omega
theorem grow_map {sig : List Sy} (ha : ArOk sig) : ∀ us : List (List Int), (∀ u ∈ us, rowE sig u = 0) → (growR sig us.flatten).reverse = us.flatMap (growR sig)
 | [], _ => by simp [growR]
 | u :: us, h => by
  obtain ⟨T, h1, _⟩ := xFJ ha (h u (by simp))
  have h3 := xGK ha us.flatten u [] (by rw [yH]; exact xAI.1 (h u (by simp)))
  rw [yT, h3, h1, List.reverse_append, grow_map ha us (fun x hx => h x (by simp [hx])), List.flatMap_cons, h1]
  rfl
theorem kids_tree {sig : List Sy} (ha : ArOk sig) {c : Int} {r : List Int} (h : rowE sig (c :: r) = 0) (hc : ¬ c < 0) :
  ∃ us : List (List Int), us.length = arN sig c ∧ r = us.flatten ∧ (∀ u ∈ us, rowE sig u = 0) ∧ growR sig (c :: r) = [.app (us.flatMap (growR sig))] := by
 have h1 := xAI.1 h
 rw [xAJ] at h1
 cases hd : codeD sig c with
 | none => rw [hd] at h1; simp at h1
 | some e =>
  rw [hd] at h1
  simp only at h1
  obtain ⟨k1, _⟩ := codeD_ar ha hd hc
  obtain ⟨us, u1, u2, u3⟩ : ∃ us : List (List Int), us.length = arN sig c ∧ r = us.flatten ∧ ∀ u ∈ us, rowE sig u = 0 := by
   by_cases h0 : 1 + e = 0
   ·rw [if_pos h0] at h1
    have hl : r.length = 0 := by
     have := congrArg Prod.fst h1
     simp at this
     omega
    exact ⟨[], by simp; omega, by rw [zE hl]; rfl, fun u hu => by cases hu⟩
   rw [if_neg h0, show (1 : Int) + e = (arN sig c : Int) by omega] at h1
   exact xEH ha _ r (0 + 1) (by omega) (by rw [h1]; simp only [zG, Prod.mk.injEq, and_true]; omega)
  have hl : (growR sig r).length = arN sig c := by
   have := congrArg List.length (grow_flat ha us u3)
   rw [zJ, zJ, yX, ← u2] at this
   omega
  refine ⟨us, u1, u2, u3, ?_⟩
  show growStep sig (growR sig r) c = _
  unfold growStep
  rw [if_neg hc, hl, Nat.sub_self, List.take_zero, List.drop_zero, yH, u2, grow_map ha us u3]
def Wf (sig : List Sy) (r : List Int) (T : Tr) (q : Nat) : Prop := ∃ u rest, r.drop q = u ++ rest ∧ rowE sig u = 0 ∧ growR sig u = [T]
theorem Wf.size {sig : List Sy} {r : List Int} {T : Tr} {q : Nat} (h : Wf sig r T q) : q + T.size ≤ r.length := by
 obtain ⟨u, rest, h1, h2, h3⟩ := h
 have h4 := xAW sig u
 rw [h3] at h4
 have h5 := congrArg List.length h1
 have h6 := T.pos
 simp only [zI, zF, sizes] at h4 h5
 omega
theorem Wf.row {sig : List Sy} {r : List Int} {T : Tr} {q : Nat} (h : Wf sig r T q) : rowE sig ((r.drop q).take T.size) = 0 ∧ growR sig ((r.drop q).take T.size) = [T] := by
 obtain ⟨u, rest, h1, h2, h3⟩ := h
 have h4 := xAW sig u
 rw [h3] at h4
 simp only [sizes] at h4
 have h5 : (r.drop q).take T.size = u := by rw [h1, show T.size = u.length by omega, List.take_left]
 rw [h5]
 exact ⟨h2, h3⟩
theorem drop_head {r : List Int} {q : Nat} {c : Int} {l : List Int} (h : r.drop q = c :: l) : r[q]? = some c ∧ r.drop (q + 1) = l := by
 constructor
 ·have := congrArg (·[0]?) h
  simpa [List.getElem?_drop] using this
 rw [← yS, h]
 rfl
theorem Wf.var {sig : List Sy} {r : List Int} {q : Nat} (h : Wf sig r .var q) : ∃ c, r[q]? = some c ∧ c < 0 := by
 obtain ⟨u, rest, h1, h2, h3⟩ := h
 cases u with
 | nil => simp [rowE, firstT] at h2
 | cons c u =>
  rw [yG] at h1
  refine ⟨c, (drop_head h1).1, ?_⟩
  by_cases hc : c < 0
  ·exact hc
  have h4 : growStep sig (growR sig u) c = [.var] := h3
  unfold growStep at h4
  rw [if_neg hc] at h4
  have h5 := congrArg List.getLast? h4
  simp at h5
theorem Wf.app {sig : List Sy} (ha : ArOk sig) {r : List Int} {ts : List Tr} {q : Nat} (h : Wf sig r (.app ts) q) : ∃ c, r[q]? = some c ∧ ¬ c < 0 ∧ ts.length = arN sig c ∧ ∀ (k : Nat) (t : Tr), ts[k]? = some t → Wf sig r t (q + 1 + sizes (ts.take k)) := by
 obtain ⟨u, rest, h1, h2, h3⟩ := h
 cases u with
 | nil => simp [rowE, firstT] at h2
 | cons c u =>
  rw [yG] at h1
  obtain ⟨h4, h5⟩ := drop_head h1
  have hc : ¬ c < 0 := fun hc => by
   have h6 : growStep sig (growR sig u) c = [.app ts] := h3
   unfold growStep at h6
   rw [if_pos hc] at h6
   have h7 := congrArg List.getLast? h6
   simp at h7
  obtain ⟨us, u1, u2, u3, u4⟩ := kids_tree ha h2 hc
  rw [h3] at u4
  simp only [List.cons.injEq, Tr.app.injEq, and_true] at u4
  have key : ∀ (vs : List (List Int)) (o : Nat) (q2 : List Int), (∀ u ∈ vs, rowE sig u = 0) → r.drop o = vs.flatten ++ q2 → (vs.flatMap (growR sig)).length = vs.length ∧ ∀ (k : Nat) (t : Tr), (vs.flatMap (growR sig))[k]? = some t → Wf sig r t (o + sizes ((vs.flatMap (growR sig)).take k)) := by
   intro vs
   induction vs with
   | nil => intro o q2 _ _; exact ⟨rfl, fun k t hk => by simp at hk⟩
   | cons v vs ih =>
    intro o q2 hv hd
    obtain ⟨T, e1, e2⟩ := xFJ ha (hv v (by simp))
    rw [yT, zR] at hd
    have hd2 : r.drop (o + v.length) = vs.flatten ++ q2 := by rw [← yS, hd, List.drop_left]
    obtain ⟨i1, i2⟩ := ih (o + v.length) q2 (fun u hu => hv u (by simp [hu])) hd2
    rw [List.flatMap_cons, e1]
    refine ⟨by simp [i1], fun k t hk => ?_⟩
    cases k with
    | zero =>
     simp only [List.singleton_append, yQ, zX] at hk
     subst hk
     simp only [List.take_zero, sizes, Nat.add_zero]
     exact ⟨v, _, hd, hv v (by simp), e1⟩
    | succ k =>
     rw [List.singleton_append, yP] at hk
     have := i2 k t hk
     rw [List.singleton_append, List.take_succ_cons]
     simp only [sizes]
     rw [e2, ← Nat.add_assoc]
     exact this
  obtain ⟨k1, k2⟩ := key us (q + 1) rest u3 (by rw [h5, u2])
  rw [← u4] at k1 k2
  exact ⟨c, h4, hc, by rw [k1, u1], k2⟩
theorem under_appM : Tryz.prog.underlying 222 = some (.pointer 248) := by kernel_rfl
theorem zero_appM : (Tryz.prog.info? 222).map (·.zero) = some (some (.pointer none)) := by kernel_rfl
theorem as_appM (v : Value) (xT : TypeId) (ok : Bool) (w : World) : (Instr.typeAssert (.iface 222 v) xT 222 ok).run Tryz.prog w = .ok (if ok then .tuple #[v, .bool true] else v) w := by
 simp [Instr.typeAssert, run_underlying under_appM, go_sem, Result.andThen]
theorem as_notM (v : Value) (xT : TypeId) (w : World) : (Instr.typeAssert (.iface 216 v) xT 222 true).run Tryz.prog w = .ok (.tuple #[.pointer none, .bool false]) w := by
 obtain ⟨i, hi, hz⟩ : ∃ i, Tryz.prog.info? 222 = some i ∧ i.zero = some (.pointer none) := by
  have h := zero_appM
  cases hi : Tryz.prog.info? 222 with
  | none => rw [hi] at h; cases h
  | some i => rw [hi] at h; exact ⟨i, rfl, by simpa using h⟩
 simp [Instr.typeAssert, run_underlying under_appM, go_sem, Result.andThen, zeroValue, typeInfo, hi, hz]
theorem args_cell {w : World} {A : Nat → Prop} {S : Nat → Nat → Value} {ts : List Tr} {p : Nat} {a : Option Addr} (h : ts = [] ∨ ∃ g off, a = some ⟨g, off, none⟩ ∧ A g ∧ TPs w A S g off ts p) {k : Nat} {t : Tr} (hk : ts[k]? = some t) : ∃ g off v, a = some ⟨g, off, none⟩ ∧ A g ∧ w.cell? ⟨g, off + k, none⟩ = some v ∧ TP w A S v t (p + sizes (ts.take k)) := by
 rcases h with rfl | ⟨g, off, h1, h2, h3⟩
 ·simp at hk
 obtain ⟨v, h4, h5⟩ := h3.get hk
 exact ⟨g, off, v, h1, h2, h4, h5⟩
theorem TPl.snoc {w : World} {A : Nat → Prop} {S : Nat → Nat → Value} : ∀ {vs : List Value} {ts : List Tr} {p : Nat} {v : Value} {t : Tr}, TPl w A S vs ts p → TP w A S v t (p + sizes ts) → TPl w A S (vs ++ [v]) (ts ++ [t]) p
 | [], [], p, v, t, _, h => by
  simp only [sizes, Nat.add_zero] at h
  exact ⟨h, trivial⟩
 | _ :: _, x :: ts, p, v, t, ⟨h1, h2⟩, h => by
  refine ⟨h1, TPl.snoc h2 ?_⟩
  simp only [sizes] at h
  rw [Nat.add_assoc]
  exact h
 | [], _ :: _, _, _, _, h, _ => h.elim
 | _ :: _, [], _, _, _, h, _ => h.elim
theorem argumentPairs_any (A : Nat → Prop) (b1 o1 c1 b2 o2 c2 q1 q2 : Nat) (x1 x2 : Int) (B1 : Nat) (ts1 : List Tr) (T2 : Tr) (v2 : Value) (w : World)
  (h1 : TP w A (cdS b1 o1 c1) (.iface 222 (.pointer (some ⟨B1, 0, none⟩))) (.app ts1) q1) (h2 : TP w A (cdS b2 o2 c2) v2 T2 q2) (hA : ∀ b, A b → b < w.heap.size)
  (hx1 : w.cell? ⟨b1, o1 + q1, none⟩ = some (.int .i64 x1)) (hx2 : w.cell? ⟨b2, o2 + q2, none⟩ = some (.int .i64 x2)) (hlen : ∀ ts2, T2 = .app ts2 → x1 = x2 → ts2.length = ts1.length) (hl : ts1.length * 32 ≤ 140737488351232) :
  Calls Tryz.prog 166 #[.pointer (some ⟨B1, 0, none⟩), v2] w fun e w' => ∃ v' xs ok, e = .returned (.tuple #[v', .bool ok]) ∧ OwP w' w.heap.size v' xs ∧ Below w.heap.size w w' ∧
   ((ok = false ∧ (T2 = .var ∨ x1 ≠ x2)) ∨ (ok = true ∧ ∃ ts2, T2 = .app ts2 ∧ x1 = x2 ∧ TPl w' A (cdS b1 o1 c1) (xs.map (·.1)) ts1 (q1 + 1) ∧ TPl w' A (cdS b2 o2 c2) (xs.map (·.2)) ts2 (q2 + 1))) := by
 unfold TP at h1
 obtain ⟨B, a1, cp1, e1, hB1, hc10, hc11, hl1, hm1, hargs1⟩ := h1
 simp only [Value.iface.injEq, Value.pointer.injEq, zX, Addr.mk.injEq, and_true, true_and] at e1
 subst e1
 unfold maxLen at hm1
 cases T2 with
 | var =>
  unfold TP at h2
  subst h2
  have has := as_notM
  clear hargs1
  go_enter Tryz.func166, Tryz.ntmps166
  go_wp2
  go_ret2
  exact ⟨_, [], false, rfl, World.ownsRow_nil _ _ _ _, Below.refl _ _, .inl ⟨rfl, .inl trivial⟩⟩
 | app ts2 =>
  unfold TP at h2
  obtain ⟨B2, a2, cp2, rfl, hB2, hc20, hc21, hl2, hm2, hargs2⟩ := h2
  unfold maxLen at hm2
  have has := as_appM (.pointer (some ⟨B2, 0, none⟩)) 187 true
  simp only [if_true] at has
  have HA := hid hA
  have HR1 := hid hargs1
  have HR2 := hid hargs2
  have HC10 := hid hc10
  have HC20 := hid hc20
  have HX1 := hid hx1
  have HX2 := hid hx2
  clear hA hargs1 hargs2 hx1 hx2 hc10 hc20
  go_enter Tryz.func166, Tryz.ntmps166
  go_wp2_with fail
  clear has
  refine (symbol_any B2 b2 o2 c2 q2 (sizes ts2) x2 w HC20.out HX2.out).mono ?_
  rintro e w9 ⟨rfl, hw9⟩
  have hw8 := hw9.symm
  subst hw8
  clear hw9
  go_wp2_with fail
  refine (symbol_any B1 b1 o1 c1 q1 (sizes ts1) x1 w HC10.out HX1.out).mono ?_
  rintro e w9 ⟨rfl, hw9⟩
  have hw8 := hw9.symm
  subst hw8
  clear hw9
  by_cases hxx : x1 = x2
  ·have hne : (x2 != x1) = false := by simp [hxx]
   have HX := hid hxx
   have hln := hlen ts2 rfl hxx
   have HLn := hid hln
   clear hxx hlen hln
   go_wp2
   clear hne
   go_loopw [8, 30] (fun x iv wr => ∃ (k : Nat) (xs : List (Value × Value)), k ≤ ts1.length ∧ iv = .int .i64 k ∧ xs.length = k ∧ OwP wr w.heap.size x xs ∧ Below w.heap.size w wr ∧ TPl w A (cdS b1 o1 c1) (xs.map (·.1)) (ts1.take k) (q1 + 1) ∧ TPl w A (cdS b2 o2 c2) (xs.map (·.2)) (ts2.take k) (q2 + 1)) (fun _ iv _ => ts1.length - (intOf iv).toNat)
   case atStart => exact ⟨0, [], Nat.zero_le _, rfl, rfl, World.ownsRow_nil _ _ _ _, Below.refl _ _, trivial, trivial⟩
   case round =>
    obtain ⟨k, xs, hk, rfl, hxl, how, hbl, ht1, ht2⟩ := hrel
    have HO := hid how
    have HB := hid hbl
    have HT1 := hid ht1
    have HT2 := hid ht2
    have HXl := hid hxl
    clear how ht1 ht2 hxl
    by_cases hlt : k < ts1.length
    ·obtain ⟨t1, htk1⟩ : ∃ t, ts1[k]? = some t := ⟨_, zC hlt⟩
     obtain ⟨t2, htk2⟩ : ∃ t, ts2[k]? = some t := ⟨_, zC (by have := HLn.out; omega)⟩
     obtain ⟨g1, f1, u1, rfl, hg1, hu1, hp1⟩ := args_cell HR1.out htk1
     obtain ⟨g2, f2, u2, rfl, hg2, hu2, hp2⟩ := args_cell HR2.out htk2
     have hu1r := (hbl.cell (p := ⟨g1, f1 + k, none⟩) (HA.out g1 hg1)).trans hu1
     have hu2r := (hbl.cell (p := ⟨g2, f2 + k, none⟩) (HA.out g2 hg2)).trans hu2
     have hc21r := (hbl.cell (p := ⟨B2, 1, none⟩) (HA.out B2 hB2)).trans hc21
     have HP1 : Hid (TPl w A (cdS b1 o1 c1) ((xs ++ [(u1, u2)]).map (·.1)) (ts1.take (k + 1)) (q1 + 1)) := by
      rw [yI, xAM htk1]
      exact TPl.snoc HT1.out hp1
     have HP2 : Hid (TPl w A (cdS b2 o2 c2) ((xs ++ [(u1, u2)]).map (·.2)) (ts2.take (k + 1)) (q2 + 1)) := by
      rw [yI, xAM htk2]
      exact TPl.snoc HT2.out hp2
     obtain ⟨v6, w6, hr6, ho6, hg6, _⟩ := join_pairs 214 (w := wr.alloc (.cells #[u1, u2] 213)) (base := w.heap.size) (x := u8) (xs := xs) (ys := [(u1, u2)]) (ao := some ⟨wr.heap.size, 0, none⟩) (cap := 1)
      (xAC HO.out (zA _)) (.inr ⟨wr.heap.size, 0, rfl, fun j u hj => by
       rw [Nat.zero_add]
       exact xAB (by simpa [prC] using hj)⟩) (fun u hu => by
       simp [prC] at hu
       rcases hu with rfl | rfl
       ·exact hp1.ifv.one
       exact hp2.ifv.one) (Nat.le_trans hbl.size (zA _).size) (by rw [HXl.out]; simp; omega)
     have hb6 := (zS hbl (zA (.cells #[u1, u2] 213))).grown hg6 (Nat.le_trans hbl.size (zA _).size) (fun j hj => own_blk HO.out hj)
     have HR6 := hid hr6
     have HO6 := hid ho6
     have HB6 := hid hb6
     have HXl2 : Hid ((xs ++ [(u1, u2)]).length = k + 1) := by show _ = _; rw [zF, HXl.out]; rfl
     have hk2 : k < ts2.length := by have := HLn.out; omega
     obtain ⟨y1, z1, hy1⟩ := hp1.ifv
     obtain ⟨y2, z2, hy2⟩ := hp2.ifv
     subst hy1
     subst hy2
     clear hr6 ho6 hg6 hb6 hu1 hu2 hp1 hp2 htk1 htk2 hbl
     go_wp2_with (first
      | (at_builtin; refine xAL rfl _ _ _ rfl _ _ rfl rfl HR6.out ?_))
     go_roundw
     case rel => exact ⟨k + 1, _, by omega, by go_num, HXl2.out, HO6.out, HB6.out, HP1.out, HP2.out⟩
     case measure => simp [intOf]; omega
    have hke : k = ts1.length := by omega
    subst hke
    have hT1 := HT1.out
    have hT2 := HT2.out
    rw [List.take_length] at hT1
    rw [← HLn.out, List.take_length] at hT2
    have HF1 := hid (hT1.keep (A' := A) (fun b o x hb hx => (zK hbl).cell _ _ hx) (fun b hb => hb))
    have HF2 := hid (hT2.keep (A' := A) (fun b o x hb hx => (zK hbl).cell _ _ hx) (fun b hb => hb))
    clear hT1 hT2
    go_wp2
    go_ret2
    exact ⟨_, xs, true, rfl, HO.out, HB.out, .inr ⟨rfl, ts2, rfl, HX.out, HF1.out, HF2.out⟩⟩
  have hne : (x2 != x1) = true := by rw [bne_iff_ne]; exact fun e => hxx e.symm
  have HX := hid hxx
  clear hxx hlen
  go_wp2
  go_ret2
  exact ⟨_, [], false, rfl, World.ownsRow_nil _ _ _ _, Below.refl _ _, .inl ⟨rfl, .inr HX.out⟩⟩
theorem codeD_neg {sig : List Sy} {c e : Int} (h : codeD sig c = some e) (hc : c < 0) : e = -1 := by
 unfold codeD at h
 split at h
 ·cases h
 first
 | (rw [if_pos hc] at h; cases h; rfl)
 | (cases h; rfl)
theorem place_eq {sig : List Sy} {t : List Int} {p : Int} (h : termE sig t = 0) : placeE sig t p = if p < 0 ∨ (t.length : Int) ≤ p then 33 else 0 := by
 unfold placeE
 rw [if_pos h]
 unfold endP
 by_cases hp : p < 0 ∨ (t.length : Int) ≤ p
 ·rw [if_pos hp, if_pos hp]
 rw [if_neg hp, if_neg hp]
 obtain ⟨k, rfl⟩ : ∃ k : Nat, p = k := ⟨p.toNat, by omega⟩
 have hk : k < t.length := by omega
 obtain ⟨h1, h2⟩ := xAE h
 obtain ⟨_, _, h3, _⟩ := at_place (sigE_ok h1) h2 hk
 rw [Int.toNat_natCast, h3]
theorem place_in {sig : List Sy} {t : List Int} {k : Nat} (h : termE sig t = 0) (hk : k < t.length) : placeE sig t k = 0 := by
 rw [place_eq h, if_neg (by omega)]
theorem place_end {sig : List Sy} {t : List Int} {k : Nat} (h : termE sig t = 0) (hk : k < t.length) : endP sig t k = (((k + nodes sig t k : Nat) : Int), 0) := by
 obtain ⟨h1, h2⟩ := xAE h
 obtain ⟨_, _, h3, _⟩ := at_place (sigE_ok h1) h2 hk
 unfold endP
 rw [if_neg (by omega), Int.toNat_natCast, h3]
 simp only [Prod.mk.injEq, and_true]
 omega
theorem sub_eq {sig : List Sy} {t : List Int} {k : Nat} (h : termE sig t = 0) (hk : k < t.length) : subL sig t k = (t.drop k).take (nodes sig t k) := by
 unfold subL
 rw [if_pos (place_in h hk), place_end h hk, Int.toNat_natCast, Int.toNat_natCast, show k + nodes sig t k - k = nodes sig t k by omega]
theorem xCL {sig : List Sy} {u : List Int} (h : rowE sig u = 0) (q : List Int) : firstT sig 1 0 (u ++ q) = ((u.length : Int), 0) := first_more q u 1 0 _ (by rw [xAI.1 h])
theorem place_term {sig : List Sy} {t : List Int} {p : Int} (h : placeE sig t p = 0) : termE sig t = 0 := by
 unfold placeE at h
 by_cases ht : termE sig t = 0
 ·exact ht
 rw [if_neg ht] at h; exact h
end Go.Proofs.YtdjmjhlbjcgoiaaGreatDoor
