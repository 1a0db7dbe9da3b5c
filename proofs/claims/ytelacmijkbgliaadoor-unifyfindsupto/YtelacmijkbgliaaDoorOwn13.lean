/- grow of package unify walked. -/
import Derived.Test.YtelacmijkbgliaaDoorOwn12
namespace Go.Proofs.YtelacmijkbgliaaDoor
open Go.RowKit Go.Maps Go.Shelf

attribute [local go_sem] Oper.semAt_some

/-- The frame of a round. -/
def growUA (sv v : Value) (mb B : Nat) (t : List Int) (k : Nat) : Act :=
  { tmps := #[sv, v, .map (some mb), .pointer (some ⟨B, 0, none⟩), undef, .pointer (some ⟨B + 1, 0, none⟩), .nilIface, .pointer (some ⟨B + 1 + 1, 0, none⟩), undef, .int .i64 (t.reverse[k]?.getD 0), undef, undef, v, .func (.func 77) #[] #[.pointer (some ⟨B + 1 + 1 + 1, 0, none⟩)], .int .i64 ((t.length - 1 - k : Nat) : Int), .int .i64 (t.reverse[k]?.getD 0), undef, undef, undef, undef, undef, undef, undef, undef, undef, undef, undef, undef, undef, undef, undef, undef, undef, undef, undef, undef, undef, undef, undef, undef, undef, undef, undef, undef, undef, undef, undef, undef, undef, undef, undef, undef], defers := [] }

set_option maxRecDepth 100000 in
set_option maxHeartbeats 6400000 in
theorem growU_any (sv v : Value) (sig : List Sy) (t : List Int) (mb B : Nat) (M : List Nm) (L : List (Int × Value)) (w : World) (hs : Sg w sv sig) (h : Is w v t) (ha : ArOk sig) (hr : rowE sig t = 0) (hb : t.length * 16 ≤ 140737488351232)
    (hm : MapV w mb L) (hv : Vm6 M L) (hf : L.length ≤ M.length) (hbd : Bd6 w B w.heap.size M (fun _ => none) id (fun _ => 0)) (hok : NdOk sig (M.map (·.nd))) (hlow : mb < B ∧ B ≤ w.heap.size) (hM : M.length + t.length < maxLen) :
    Calls Tryd.prog 37 #[sv, v, .map (some mb)] w fun e w' => ∃ M' L' r, e = .returned (ndI M' r) ∧ MapV w' mb L' ∧ Vm6 M' L' ∧ L'.length ≤ M'.length ∧ Bd6 w' B w'.heap.size M' (fun _ => none) id (fun _ => 0) ∧ NdOk sig (M'.map (·.nd)) ∧ (∃ X, M' = M ++ X) ∧ TmC (M'.map (·.nd)) id id r t ∧ (∀ i, M.length ≤ i → i < M'.length → Bel (M'.map (·.nd)) r i) ∧ M'.length ≤ M.length + t.length ∧ w.grownBy w' (some mb) := by
  obtain ⟨so, sc, rfl, hso, hsc, _⟩ := Row.flat hs
  obtain ⟨ao, cap, rfl, hao, hca, q0⟩ := Row.flat h
  unfold maxLen at hsc hca
  have htl : 0 < t.length := by
    cases t with
    | nil => simp [rowE, firstT] at hr
    | cons c t => simp
  obtain ⟨b, off, c0, rfl, _⟩ := h.at htl
  have hread : ∀ (j : Nat) (c : Int), t[j]? = some c → w.cell? ⟨b, off + j, none⟩ = some (.int .i64 c) := fun j c hj => by
    obtain ⟨b', off', c', e, h1, h2, _⟩ := h.at (List.getElem?_eq_some_iff.1 hj).1
    simp only [Option.some.injEq, Addr.mk.injEq, and_true] at e
    obtain ⟨rfl, rfl⟩ := e
    rw [hj] at h1
    cases h1
    exact h2
  obtain ⟨es, ck, hes⟩ := hm.isMap
  have HKm : Hid (∀ W : World, w.grownBy W (some mb) → Kp w W) := fun W hg => Kp.of_map hg hes
  have HS := hid hs
  have HRd := hid hread
  have HA := hid ha
  have HR := hid hr
  have HMp := hid hm
  have HVm := hid hv
  have HBd := hid hbd
  have HOk := hid hok
  have HMl := hid hM
  have hmlt := hm.lt
  unfold maxLen at HMl
  clear hs h ha hr q0 hread hm hv hbd hok hM
  refine (callsIn_wide (n := 3)).1 ?_
  refine callsIn_of_wp_marks Tryd.func37 rfl trivial ?_ rfl
  simp only [Tryd.ntmps37, List.size_toArray, List.length_cons, List.length_nil, Nat.reduceAdd, Nat.reduceSub, Array.replicate_succ, Array.replicate_zero, List.push_toArray, List.append_toArray, List.nil_append, List.cons_append]
  gi_wp2_with fail
  refine ⟨trivial, ?_⟩
  refine (back_any _ _ _ _ Fence.wide _ trivial rfl).mono ?_
  rintro e w' ⟨rfl, rfl⟩
  gi_wp2_with fail
  have hB0 : Below w.heap.size w ((((w.alloc (.cells #[.slice so sig.length sc] 22)).alloc (.cells #[.map (some mb)] 43)).alloc (.cells #[.slice none 0 0] 87)).alloc (.cells #[.slice (some ⟨b, off, none⟩) t.length cap] 23)) := below_step (below_step (below_step (below_alloc _) (below_alloc _)) (below_alloc _)) (below_alloc _)
  refine range_rounds rfl (by omega) (gf := 77) (lb := #[.pointer (some ⟨w.heap.size + 3, 0, none⟩)]) (by simp [go_sem]) trivial (enters_of Tryd.func77 (by kernel_rfl) rfl)
    (backA t) t.length (fun _ => rfl) (BackR (w.heap.size + 3) b off cap t) (fun k W => GRel sig w mb B M.length M (.slice so sig.length sc) (.slice (some ⟨b, off, none⟩) t.length cap) (t.drop (t.length - k)) W)
    ?_ ?_ ?_ ?_ (growUA (.slice so sig.length sc) (.slice (some ⟨b, off, none⟩) t.length cap) mb w.heap.size t) ?assign ?body ?done
  · rintro k W l o o' hl ho hc ⟨gv, M', L', st, hg, hX⟩
    exact ⟨gv, M', L', st, hg.put (by simpa using hl) ho hc, hX⟩
  · intro r
    refine ⟨.slice none 0 0, M, L, [], ?_, [], by simp⟩
    rw [show t.length - 0 = t.length by omega, List.drop_length]
    have hst0 : GI6 sig w ((((w.alloc (.cells #[.slice so sig.length sc] 22)).alloc (.cells #[.map (some mb)] 43)).alloc (.cells #[.slice none 0 0] 87)).alloc (.cells #[.slice (some ⟨b, off, none⟩) t.length cap] 23)) mb B M.length (.slice so sig.length sc) (.slice (some ⟨b, off, none⟩) t.length cap) (.slice none 0 0) M L [] [] := by
      refine ⟨(Kp.of_below (below_alloc _)).cell _ _ ((Kp.of_below (below_alloc _)).cell _ _ ((Kp.of_below (below_alloc _)).cell _ _ (cell_newg' rfl rfl))), (Kp.of_below (below_alloc _)).cell _ _ ((Kp.of_below (below_alloc _)).cell _ _ (cell_newg' (by simp) rfl)), (Kp.of_below (below_alloc _)).cell _ _ (cell_newg' (by simp) rfl), by rw [frozen_same (Below.heap_alloc _ _ _ (by simp))]; exact frozen_newg (by simp), cell_newg' (by simp) rfl, World.ownsRow_nil _ _ _ _, HMp.out.later hB0, HVm.out, hf, ?_, ?_, grown_of_below hB0 _, by simp, hlow⟩
      · exact HBd.out.to_only hB0.size (fun q o h1 h2 h3 => ⟨gA_iff.2 ⟨fun e => (by subst e; rw [hes] at h2; cases h2; cases h3), .inl h1, by simp [Value.ownBlock]⟩, (hB0.block q h1).trans h2⟩)
      · have := gr_start HOk.out
        rw [List.length_map] at this
        exact this
    exact hst0.later (below_step (below_alloc _) (below_alloc _))
  · rintro k W ⟨gv, M', L', st, hg, _⟩
    exact ⟨hg.bck, fun j c hj => (HKm.out W hg.grown).cell _ _ (HRd.out j c hj)⟩
  · intro l J W hR hY h0
    exact back_rounds Fence.wide _ trivial rfl (by omega) (w.heap.size + 3) b off cap t (by omega) hao (by omega) l J W hR hY h0
  case assign =>
    intro l k W K hK
    unfold backA
    gi_wp2
    exact hK
  case body =>
    rintro l k W hk ⟨gv, M', L', st, hg, hX⟩
    obtain ⟨c, hc1, hc2, hc3⟩ := drop_rev hk
    have hcm : c ∈ t := by rw [hc3]; simp
    have hcr := codes_of HR.out hcm
    have hstl : st.length = (growR sig (t.drop (t.length - k))).length := hg.gr.len
    have hsl : st.length ≤ k := by
      have h1 := len_sizes (growR sig (t.drop (t.length - k)))
      rw [growR_sizes, List.length_drop] at h1
      omega
    have hM' : M'.length ≤ M.length + k := by
      have h1 := hg.gr.few
      rw [List.length_map, List.length_drop] at h1
      omega
    have HG := hid hg
    have HX := hid hX
    have hbx := hg.box
    have hfz := hg.frz
    have hsb := hg.sigb
    have hmb := hg.mapb
    have hWs := hg.sz
    obtain ⟨go, gc, hgv, hgc1, hgc2⟩ : ∃ ao cap, gv = .slice ao st.length cap ∧ st.length ≤ cap ∧ cap ≤ 9223372036854775807 := by
      rcases hg.own.2 with ⟨h8, h9⟩ | ⟨g8, c8, cur8, h8, _, _, h9, h7, _⟩
      · exact ⟨none, 0, by rw [h8, h9], by omega, by omega⟩
      · exact ⟨_, c8, h8, h9, by unfold maxLen at h7; omega⟩
    have HGv := hid hgv
    have mixed : Tryd.prog.follows .mixedOrders = true := by kernel_rfl
    rw [hgv] at hbx
    unfold growUA
    rw [hc1, Option.getD_some]
    have HC2 := hid hc2
    have HC3 := hid hc3
    have HStl := hid hstl
    clear hg hgv hc1 hc2 hc3 hstl hX hcm
    have hmlt2 := HMl.out
    by_cases hcv : c < 0
    · have hwn : IntKind.i64.wrap (-1 - c) = -1 - c := IntWalk.i64_in _ ⟨by omega, by omega⟩
      have HVo : Hid (Calls Tryd.prog 58 #[.map (some mb), .int .i64 (-1 - c)] W.drew (GOut 74 sig w W.drew mb B M.length M (.slice so sig.length sc) (.slice (some ⟨b, off, none⟩) t.length cap) gv go st.length gc st.length (t.drop (t.length - (k + 1))))) := by
        show Calls _ _ _ _ _
        rw [HC2.out]
        exact var_out (HG.out.later (drawn_below1 W)) HGv.out hcv hcr HX.out (by omega) (by unfold maxLen; omega)
      have HKq : Hid (KeepsFrom (w.heap.size + 4) W W.drew) := KeepsFrom.of_grownBy (grown_of_below (drawn_below1 W) none) (fun j hj => by cases hj)
      have hbx1 : W.drew.cell? ⟨w.heap.size + 2, 0, none⟩ = some (.slice go st.length gc) := hbx
      have hmb1 : W.drew.cell? ⟨w.heap.size + 1, 0, none⟩ = some (.map (some mb)) := hmb
      gi_upto_region 5 with fail
      refine wpIn_region_any mixed ?_
      change wpAnyIn _ _ _ _ _ _ _ _ _ (World.drew _)
      refine wpAnyIn_round (F := Fence.wide) l (by kernel_rfl) _ _ _ _ ?_
      refine wpAnyIn_take (i := 2) (v := .int .i64 c) rfl rfl (by kernel_rfl) (by kernel_rfl) (by kernel_rfl) (fun _ _ _ h => h) ⟨Or.inl ⟨by rfl, ?_⟩, fun _ => rfl⟩ ?_
      · intro wx
        go_simp
      refine wpAnyIn_take (i := 3) (v := .int .i64 (-1 - c)) rfl rfl (by kernel_rfl) (by kernel_rfl) (by kernel_rfl) (fun _ _ _ h => h) ⟨Or.inl ⟨by rfl, ?_⟩, fun _ => rfl⟩ ?_
      · intro wx
        go_simp
      refine wpAnyIn_ready (rs := [0, 1]) (by kernel_rfl) (by simp) ?_
      refine AllReadyIn.cons rfl (fun K hK => ?_) ?_
      · go_simp
        refine hK _ _ ?_
        clear hK K
        refine wpAnyIn_ready (rs := [1]) (by kernel_rfl) (by simp) ?_
        refine AllReadyIn.cons rfl (fun K hK => ?_) ?_
        · go_simp
          refine hK _ _ ?_
          clear hK K
          refine wpAnyIn_ready (rs := [4]) (by kernel_rfl) (by simp) ?_
          refine AllReadyIn.cons rfl (fun K hK => ?_) ?_
          · go_simp
            refine ⟨trivial, ?_⟩
            refine (callsIn_wide.2 HVo.out).mono ?_
            rintro e w3 ⟨p, rfl, q1, g, cp, W2, hr2, hb2, hf2, hk2, hg2⟩
            have q2 : (w3.alloc (.cells #[.iface 74 (.pointer p)] 64)).cell? ⟨w.heap.size + 2, 0, none⟩ = some (.slice go st.length gc) := (Kp.of_below (below_alloc _)).cell _ _ q1
            have HR2 := hid hr2
            have HK2 := hid hk2
            have HG2 := hid hg2
            clear hr2 hk2 hg2
            refine hK _ _ ?_
            clear hK K
            refine wpAnyIn_take (i := 5) (v := .iface 74 (.pointer p)) rfl rfl (by kernel_rfl) (by kernel_rfl) (by kernel_rfl) (fun _ _ _ h => h) ⟨Or.inl ⟨by rfl, ?_⟩, fun _ => rfl⟩ ?_
            · intro wx
              go_simp
            refine wpAnyIn_ready (rs := [6]) (by kernel_rfl) (by simp) ?_
            refine AllReadyIn.cons rfl (fun K hK => ?_) ?_
            · go_simp
              refine hK _ _ ?_
              clear hK K
              refine wpAnyIn_ready (rs := [7]) (by kernel_rfl) (by simp) ?_
              refine AllReadyIn.cons rfl (fun K hK => ?_) ?_
              · rw [if_pos (by rfl)]
                refine operIn_append_run _ _ _ rfl _ _ rfl rfl HR2.out ?_
                refine hK _ _ ?_
                clear hK K
                refine wpAnyIn_ready (rs := [8]) (by kernel_rfl) (by simp) ?_
                refine AllReadyIn.cons rfl (fun K hK => ?_) ?_
                · go_simp
                  refine hK _ _ ?_
                  clear hK K
                  refine wpAnyIn_done (by kernel_rfl) ?_ _
                  gi_wp2_with fail
                  exact ⟨HKq.out.trans HK2.out, HG2.out⟩
                exact AllReadyIn.nil
              exact AllReadyIn.nil
            exact AllReadyIn.nil
          exact AllReadyIn.nil
        exact AllReadyIn.nil
      refine AllReadyIn.cons rfl (fun K hK => ?_) ?_
      · go_simp
        refine hK _ _ ?_
        clear hK K
        refine wpAnyIn_ready (rs := [0, 4]) (by kernel_rfl) (by simp) ?_
        refine AllReadyIn.cons rfl (fun K hK => ?_) ?_
        · go_simp
          refine hK _ _ ?_
          clear hK K
          refine wpAnyIn_ready (rs := [4]) (by kernel_rfl) (by simp) ?_
          refine AllReadyIn.cons rfl (fun K hK => ?_) ?_
          · go_simp
            refine ⟨trivial, ?_⟩
            refine (callsIn_wide.2 HVo.out).mono ?_
            rintro e w3 ⟨p, rfl, q1, g, cp, W2, hr2, hb2, hf2, hk2, hg2⟩
            have q2 : (w3.alloc (.cells #[.iface 74 (.pointer p)] 64)).cell? ⟨w.heap.size + 2, 0, none⟩ = some (.slice go st.length gc) := (Kp.of_below (below_alloc _)).cell _ _ q1
            have HR2 := hid hr2
            have HK2 := hid hk2
            have HG2 := hid hg2
            clear hr2 hk2 hg2
            refine hK _ _ ?_
            clear hK K
            refine wpAnyIn_take (i := 5) (v := .iface 74 (.pointer p)) rfl rfl (by kernel_rfl) (by kernel_rfl) (by kernel_rfl) (fun _ _ _ h => h) ⟨Or.inl ⟨by rfl, ?_⟩, fun _ => rfl⟩ ?_
            · intro wx
              go_simp
            refine wpAnyIn_ready (rs := [6]) (by kernel_rfl) (by simp) ?_
            refine AllReadyIn.cons rfl (fun K hK => ?_) ?_
            · go_simp
              refine hK _ _ ?_
              clear hK K
              refine wpAnyIn_ready (rs := [7]) (by kernel_rfl) (by simp) ?_
              refine AllReadyIn.cons rfl (fun K hK => ?_) ?_
              · rw [if_pos (by rfl)]
                refine operIn_append_run _ _ _ rfl _ _ rfl rfl HR2.out ?_
                refine hK _ _ ?_
                clear hK K
                refine wpAnyIn_ready (rs := [8]) (by kernel_rfl) (by simp) ?_
                refine AllReadyIn.cons rfl (fun K hK => ?_) ?_
                · go_simp
                  refine hK _ _ ?_
                  clear hK K
                  refine wpAnyIn_done (by kernel_rfl) ?_ _
                  gi_wp2_with fail
                  exact ⟨HKq.out.trans HK2.out, HG2.out⟩
                exact AllReadyIn.nil
              exact AllReadyIn.nil
            exact AllReadyIn.nil
          exact AllReadyIn.nil
        refine AllReadyIn.cons rfl (fun K hK => ?_) ?_
        · go_simp
          refine ⟨trivial, ?_⟩
          refine (callsIn_wide.2 HVo.out).mono ?_
          rintro e w3 ⟨p, rfl, q1, g, cp, W2, hr2, hb2, hf2, hk2, hg2⟩
          have q2 : (w3.alloc (.cells #[.iface 74 (.pointer p)] 64)).cell? ⟨w.heap.size + 2, 0, none⟩ = some (.slice go st.length gc) := (Kp.of_below (below_alloc _)).cell _ _ q1
          have HR2 := hid hr2
          have HK2 := hid hk2
          have HG2 := hid hg2
          clear hr2 hk2 hg2
          refine hK _ _ ?_
          clear hK K
          refine wpAnyIn_take (i := 5) (v := .iface 74 (.pointer p)) rfl rfl (by kernel_rfl) (by kernel_rfl) (by kernel_rfl) (fun _ _ _ h => h) ⟨Or.inl ⟨by rfl, ?_⟩, fun _ => rfl⟩ ?_
          · intro wx
            go_simp
          refine wpAnyIn_ready (rs := [0, 6]) (by kernel_rfl) (by simp) ?_
          refine AllReadyIn.cons rfl (fun K hK => ?_) ?_
          · go_simp
            refine hK _ _ ?_
            clear hK K
            refine wpAnyIn_ready (rs := [6]) (by kernel_rfl) (by simp) ?_
            refine AllReadyIn.cons rfl (fun K hK => ?_) ?_
            · go_simp
              refine hK _ _ ?_
              clear hK K
              refine wpAnyIn_ready (rs := [7]) (by kernel_rfl) (by simp) ?_
              refine AllReadyIn.cons rfl (fun K hK => ?_) ?_
              · rw [if_pos (by rfl)]
                refine operIn_append_run _ _ _ rfl _ _ rfl rfl HR2.out ?_
                refine hK _ _ ?_
                clear hK K
                refine wpAnyIn_ready (rs := [8]) (by kernel_rfl) (by simp) ?_
                refine AllReadyIn.cons rfl (fun K hK => ?_) ?_
                · go_simp
                  refine hK _ _ ?_
                  clear hK K
                  refine wpAnyIn_done (by kernel_rfl) ?_ _
                  gi_wp2_with fail
                  exact ⟨HKq.out.trans HK2.out, HG2.out⟩
                exact AllReadyIn.nil
              exact AllReadyIn.nil
            exact AllReadyIn.nil
          refine AllReadyIn.cons rfl (fun K hK => ?_) ?_
          · go_simp
            refine hK _ _ ?_
            clear hK K
            refine wpAnyIn_ready (rs := [0]) (by kernel_rfl) (by simp) ?_
            refine AllReadyIn.cons rfl (fun K hK => ?_) ?_
            · go_simp
              refine hK _ _ ?_
              clear hK K
              refine wpAnyIn_ready (rs := [7]) (by kernel_rfl) (by simp) ?_
              refine AllReadyIn.cons rfl (fun K hK => ?_) ?_
              · rw [if_pos (by rfl)]
                refine operIn_append_run _ _ _ rfl _ _ rfl rfl HR2.out ?_
                refine hK _ _ ?_
                clear hK K
                refine wpAnyIn_ready (rs := [8]) (by kernel_rfl) (by simp) ?_
                refine AllReadyIn.cons rfl (fun K hK => ?_) ?_
                · go_simp
                  refine hK _ _ ?_
                  clear hK K
                  refine wpAnyIn_done (by kernel_rfl) ?_ _
                  gi_wp2_with fail
                  exact ⟨HKq.out.trans HK2.out, HG2.out⟩
                exact AllReadyIn.nil
              exact AllReadyIn.nil
            exact AllReadyIn.nil
          exact AllReadyIn.nil
        exact AllReadyIn.nil
      exact AllReadyIn.nil
    · obtain ⟨cn, rfl⟩ : ∃ cn : Nat, c = cn := ⟨c.toNat, by omega⟩
      obtain ⟨hcl, har⟩ := grow_code HA.out _ _ _ 1 0 (by omega) (by rw [← HC3.out, row_first.1 HR.out]; simp) hcv
      have hclN := hcl
      rw [Int.toNat_natCast] at hcl
      obtain ⟨sg, soff, nm, ar, rfl, hs1, hs2, hs3, hs4, hs5, hs6⟩ := HS.out.at hcl
      have harI := HA.out _ (List.mem_of_getElem? hs1)
      simp only at harI
      have hArN : arN sig (cn : Int) = ar.toNat := by unfold arN; rw [Int.toNat_natCast, hs1]
      obtain ⟨r, hrr⟩ : ∃ r : Nat, r = st.length - ar.toNat := ⟨_, rfl⟩
      have hrl : r ≤ st.length := by omega
      have hrA : r + arN sig (cn : Int) = st.length := by rw [hArN]; rw [← HStl.out, hArN] at har; omega
      have hrI : (st.length : Int) - ar = (r : Int) := by rw [hArN] at hrA; omega
      have hwr : IntKind.i64.wrap ((st.length : Int) - ar) = (r : Int) := by rw [hrI]; exact IntWalk.i64_in _ ⟨by omega, by omega⟩
      have hs3W : W.cell? ⟨sg, soff + cn * 2 + 1, none⟩ = _ := (HKm.out W HG.out.grown).cell _ _ hs3
      have hwr2 : IntKind.i64.wrap (r : Int) = (r : Int) := IntWalk.i64_in _ ⟨by omega, by omega⟩
      have HIf : Hid (∀ (q : Nat), ∀ u ∈ (st.drop q).map (ndI M'), IfV u) := fun q u hu => by
        obtain ⟨x, hx, rfl⟩ := List.mem_map.1 hu
        exact ndI_if (by have := HG.out.gr.lt (List.mem_of_mem_drop hx); rwa [List.length_map] at this)
      clear hs1 hs2 hs3 hrr har
      gi_upto_region 6 with fail
      gi_cut [10] from 26 (fun x wx => x = .int .i64 (r : Int) ∧ wx = W.drew)
      case first =>
        gi_region_with_o (fail)
        all_goals (gi_wp2; gi_meet; exact ⟨rfl, rfl⟩)
      case rest =>
        obtain ⟨rfl, hwc⟩ := hcut
        have HGq := hid (HG.out.later (drawn_below1 W))
        have HKq : Hid (KeepsFrom (w.heap.size + 4) W W.drew) := KeepsFrom.of_grownBy (grown_of_below (drawn_below1 W) none) (fun j hj => by cases hj)
        have hbq := HGq.out.box
        rw [HGv.out] at hbq
        obtain ⟨Wq, hWq⟩ : ∃ X, X = W.drew := ⟨_, rfl⟩
        rw [← hWq] at HGq HKq hbq hwc
        subst hwc
        clear hWq hbx hs3W hsb hfz hmb
        cases go with
        | none =>
          obtain ⟨hv0, hg0⟩ : st.length = 0 ∧ gc = 0 := by
            rcases HGq.out.own.2 with ⟨h8, h9⟩ | ⟨g8, c8, cur8, h8, _⟩
            · rw [HGv.out] at h8
              simp only [Value.slice.injEq] at h8
              exact ⟨h9, h8.2.2⟩
            · rw [HGv.out] at h8; cases h8
          obtain rfl : r = 0 := by omega
          subst hg0
          obtain rfl := List.eq_nil_of_length_eq_zero hv0
          have HSl : Hid (RdV wc (.slice none 0 0) ((([] : List Nat).drop 0).map (ndI M'))) := .inl ⟨rfl, rfl⟩
          gi_wp2_with fail
          refine ⟨trivial, ?_⟩
          refine (CallsIn.inRound l (callsIn_wide.2 (cloneT6_any _ ((([] : List Nat).drop 0).map (ndI M')) _ HSl.out (fun u hu => (HIf.out _ u hu).one) (by rw [List.length_map, List.length_drop]; omega)))).mono ?_
          rintro e w1 ⟨cv, rfl, hoc, hbc⟩
          have HOc := hid hoc
          have HB1 := hid hbc
          clear hoc hbc
          gi_wp2_with fail
          refine ⟨trivial, ?_⟩
          refine (CallsIn.inRound l (callsIn_wide.2 (reverseT6_any cv ((([] : List Nat).drop 0).map (ndI M')) _ w1 HOc.out (fun u hu => HIf.out _ u hu)))).mono ?_
          rintro e w2 ⟨rfl, hor, hgr2⟩
          have HOr := hid hor
          have HB2 : Hid (Below wc.heap.size wc w2) := HB1.out.grown hgr2 HB1.out.size (fun j hj => own_blk HOc.out hj)
          clear hor hgr2
          have HB9 := hid (below_step HB2.out (drawn_below1 w2))
          have HG9 := hid (HGq.out.later HB9.out)
          have hbx9 := HG9.out.box
          rw [HGv.out] at hbx9
          have HOr9 := hid (ownsRow_later HOr.out (drawn_below1 w2))
          obtain ⟨cl, hcl9⟩ : ∃ cl, cl = ((([] : List Nat).drop 0).map (ndI M')).length := ⟨_, rfl⟩
          have hclA : cl = arN sig (cn : Int) := by rw [hcl9, List.length_map, List.length_drop]; omega
          obtain ⟨co, cc, hcv9⟩ : ∃ co cc, cv = .slice co cl cc := by
            rcases HOr9.out.2 with ⟨h8, h9⟩ | ⟨g8, c8, cur8, h8, _⟩
            · exact ⟨none, 0, by rw [h8, hcl9, h9]⟩
            · exact ⟨_, c8, by rw [h8, hcl9]⟩
          subst hcv9
          rw [← hcl9] at HOr9
          have HAo : Hid (Calls Tryd.prog 61 #[.int .i64 (cn : Int), .slice co cl cc] w2.drew (GOut 94 sig w wc mb B M.length M (.slice (some ⟨sg, soff, none⟩) sig.length sc) (.slice (some ⟨b, off, none⟩) t.length cap) gv none ([] : List Nat).length 0 0 (t.drop (t.length - (k + 1))))) := by
            show Calls _ _ _ _ _
            rw [HC2.out]
            exact app_out HGq.out HGv.out (by omega) hclN hrA HX.out (by omega) hclA HOr9.out HB9.out
          have hrc : 0 ≤ 0 := by omega
          clear HOr HOc HB1 HB2 hclA hcl9
          gi_upto_region 9 with fail
          refine wpIn_region_any mixed ?_
          change wpAnyIn _ _ _ _ _ _ _ _ _ (World.drew _)
          refine wpAnyIn_round (F := Fence.wide) l (by kernel_rfl) _ _ _ _ ?_
          refine wpAnyIn_take (i := 1) (v := .int .i64 0) rfl rfl (by kernel_rfl) (by kernel_rfl) (by kernel_rfl) (fun _ _ _ h => h) ⟨Or.inl ⟨by rfl, ?_⟩, fun _ => rfl⟩ ?_
          · intro wx
            go_simp
          refine wpAnyIn_take (i := 3) (v := .int .i64 (cn : Int)) rfl rfl (by kernel_rfl) (by kernel_rfl) (by kernel_rfl) (fun _ _ _ h => h) ⟨Or.inl ⟨by rfl, ?_⟩, fun _ => rfl⟩ ?_
          · intro wx
            go_simp
          refine wpAnyIn_take (i := 4) (v := .slice co cl cc) rfl rfl (by kernel_rfl) (by kernel_rfl) (by kernel_rfl) (fun _ _ _ h => h) ⟨Or.inl ⟨by rfl, ?_⟩, fun _ => rfl⟩ ?_
          · intro wx
            go_simp
          refine wpAnyIn_ready (rs := [0, 5]) (by kernel_rfl) (by simp) ?_
          refine AllReadyIn.cons rfl (fun K hK => ?_) ?_
          · go_simp
            refine hK _ _ ?_
            clear hK K
            refine wpAnyIn_take (i := 2) (v := .slice none 0 0) rfl rfl (by kernel_rfl) (by kernel_rfl) (by kernel_rfl) (fun _ _ _ h => h) ⟨Or.inl ⟨by rfl, ?_⟩, fun _ => rfl⟩ ?_
            · intro wx
              go_simp
            refine wpAnyIn_ready (rs := [5]) (by kernel_rfl) (by simp) ?_
            refine AllReadyIn.cons rfl (fun K hK => ?_) ?_
            · go_simp
              refine ⟨trivial, ?_⟩
              refine (callsIn_wide.2 HAo.out).mono ?_
              rintro e w3 ⟨p, rfl, q1, g, cp, W2, hr2, hb2, hf2, hk2, hg2⟩
              have q2 : (w3.alloc (.cells #[.iface 94 (.pointer p)] 64)).cell? ⟨w.heap.size + 2, 0, none⟩ = some (.slice none 0 0) := (Kp.of_below (below_alloc _)).cell _ _ q1
              have HR2 := hid hr2
              have HK2 := hid hk2
              have HG2 := hid hg2
              clear hr2 hk2 hg2
              refine hK _ _ ?_
              clear hK K
              refine wpAnyIn_take (i := 6) (v := .iface 94 (.pointer p)) rfl rfl (by kernel_rfl) (by kernel_rfl) (by kernel_rfl) (fun _ _ _ h => h) ⟨Or.inl ⟨by rfl, ?_⟩, fun _ => rfl⟩ ?_
              · intro wx
                go_simp
              refine wpAnyIn_ready (rs := [7]) (by kernel_rfl) (by simp) ?_
              refine AllReadyIn.cons rfl (fun K hK => ?_) ?_
              · go_simp
                refine hK _ _ ?_
                clear hK K
                refine wpAnyIn_ready (rs := [8]) (by kernel_rfl) (by simp) ?_
                refine AllReadyIn.cons rfl (fun K hK => ?_) ?_
                · rw [if_pos (by rfl)]
                  refine operIn_append_run _ _ _ rfl _ _ rfl rfl HR2.out ?_
                  refine hK _ _ ?_
                  clear hK K
                  refine wpAnyIn_ready (rs := [9]) (by kernel_rfl) (by simp) ?_
                  refine AllReadyIn.cons rfl (fun K hK => ?_) ?_
                  · go_simp
                    refine hK _ _ ?_
                    clear hK K
                    refine wpAnyIn_done (by kernel_rfl) ?_ _
                    gi_wp2_with fail
                    exact ⟨HKq.out.trans HK2.out, HG2.out⟩
                  exact AllReadyIn.nil
                exact AllReadyIn.nil
              exact AllReadyIn.nil
            exact AllReadyIn.nil
          refine AllReadyIn.cons rfl (fun K hK => ?_) ?_
          · go_simp
            refine ⟨trivial, ?_⟩
            refine (callsIn_wide.2 HAo.out).mono ?_
            rintro e w3 ⟨p, rfl, q1, g, cp, W2, hr2, hb2, hf2, hk2, hg2⟩
            have q2 : (w3.alloc (.cells #[.iface 94 (.pointer p)] 64)).cell? ⟨w.heap.size + 2, 0, none⟩ = some (.slice none 0 0) := (Kp.of_below (below_alloc _)).cell _ _ q1
            have HR2 := hid hr2
            have HK2 := hid hk2
            have HG2 := hid hg2
            clear hr2 hk2 hg2
            refine hK _ _ ?_
            clear hK K
            refine wpAnyIn_take (i := 6) (v := .iface 94 (.pointer p)) rfl rfl (by kernel_rfl) (by kernel_rfl) (by kernel_rfl) (fun _ _ _ h => h) ⟨Or.inl ⟨by rfl, ?_⟩, fun _ => rfl⟩ ?_
            · intro wx
              go_simp
            refine wpAnyIn_ready (rs := [0, 7]) (by kernel_rfl) (by simp) ?_
            refine AllReadyIn.cons rfl (fun K hK => ?_) ?_
            · go_simp
              refine hK _ _ ?_
              clear hK K
              refine wpAnyIn_take (i := 2) (v := .slice none 0 0) rfl rfl (by kernel_rfl) (by kernel_rfl) (by kernel_rfl) (fun _ _ _ h => h) ⟨Or.inl ⟨by rfl, ?_⟩, fun _ => rfl⟩ ?_
              · intro wx
                go_simp
              refine wpAnyIn_ready (rs := [7]) (by kernel_rfl) (by simp) ?_
              refine AllReadyIn.cons rfl (fun K hK => ?_) ?_
              · go_simp
                refine hK _ _ ?_
                clear hK K
                refine wpAnyIn_ready (rs := [8]) (by kernel_rfl) (by simp) ?_
                refine AllReadyIn.cons rfl (fun K hK => ?_) ?_
                · rw [if_pos (by rfl)]
                  refine operIn_append_run _ _ _ rfl _ _ rfl rfl HR2.out ?_
                  refine hK _ _ ?_
                  clear hK K
                  refine wpAnyIn_ready (rs := [9]) (by kernel_rfl) (by simp) ?_
                  refine AllReadyIn.cons rfl (fun K hK => ?_) ?_
                  · go_simp
                    refine hK _ _ ?_
                    clear hK K
                    refine wpAnyIn_done (by kernel_rfl) ?_ _
                    gi_wp2_with fail
                    exact ⟨HKq.out.trans HK2.out, HG2.out⟩
                  exact AllReadyIn.nil
                exact AllReadyIn.nil
              exact AllReadyIn.nil
            refine AllReadyIn.cons rfl (fun K hK => ?_) ?_
            · go_simp
              refine hK _ _ ?_
              clear hK K
              refine wpAnyIn_ready (rs := [0]) (by kernel_rfl) (by simp) ?_
              refine AllReadyIn.cons rfl (fun K hK => ?_) ?_
              · go_simp
                refine hK _ _ ?_
                clear hK K
                refine wpAnyIn_take (i := 2) (v := .slice none 0 0) rfl rfl (by kernel_rfl) (by kernel_rfl) (by kernel_rfl) (fun _ _ _ h => h) ⟨Or.inl ⟨by rfl, ?_⟩, fun _ => rfl⟩ ?_
                · intro wx
                  go_simp
                refine wpAnyIn_ready (rs := [8]) (by kernel_rfl) (by simp) ?_
                refine AllReadyIn.cons rfl (fun K hK => ?_) ?_
                · rw [if_pos (by rfl)]
                  refine operIn_append_run _ _ _ rfl _ _ rfl rfl HR2.out ?_
                  refine hK _ _ ?_
                  clear hK K
                  refine wpAnyIn_ready (rs := [9]) (by kernel_rfl) (by simp) ?_
                  refine AllReadyIn.cons rfl (fun K hK => ?_) ?_
                  · go_simp
                    refine hK _ _ ?_
                    clear hK K
                    refine wpAnyIn_done (by kernel_rfl) ?_ _
                    gi_wp2_with fail
                    exact ⟨HKq.out.trans HK2.out, HG2.out⟩
                  exact AllReadyIn.nil
                exact AllReadyIn.nil
              exact AllReadyIn.nil
            exact AllReadyIn.nil
          exact AllReadyIn.nil
        | some ad =>
          obtain ⟨gb, hgb⟩ : ∃ gb, ad = ⟨gb, 0, none⟩ := by
            rcases HGq.out.own.2 with ⟨h8, h9⟩ | ⟨g8, c8, cur8, h8, _⟩
            · rw [HGv.out] at h8; cases h8
            · rw [HGv.out] at h8
              simp only [Value.slice.injEq, Option.some.injEq] at h8
              exact ⟨g8, h8.1⟩
          subst hgb
          by_cases hgr : gc = r
          · subst hgr
            have HSl : Hid (RdV wc (.slice (some ⟨gb, 0, none⟩) 0 0) ((st.drop gc).map (ndI M'))) := by
              refine .inr ⟨gb, 0, 0, by rw [List.drop_eq_nil_of_le hgc1]; rfl, fun j u hj => ?_⟩
              rw [List.drop_eq_nil_of_le hgc1] at hj
              cases hj
            gi_wp2_with fail
            refine ⟨trivial, ?_⟩
            refine (CallsIn.inRound l (callsIn_wide.2 (cloneT6_any _ ((st.drop gc).map (ndI M')) _ HSl.out (fun u hu => (HIf.out _ u hu).one) (by rw [List.length_map, List.length_drop]; omega)))).mono ?_
            rintro e w1 ⟨cv, rfl, hoc, hbc⟩
            have HOc := hid hoc
            have HB1 := hid hbc
            clear hoc hbc
            gi_wp2_with fail
            refine ⟨trivial, ?_⟩
            refine (CallsIn.inRound l (callsIn_wide.2 (reverseT6_any cv ((st.drop gc).map (ndI M')) _ w1 HOc.out (fun u hu => HIf.out _ u hu)))).mono ?_
            rintro e w2 ⟨rfl, hor, hgr2⟩
            have HOr := hid hor
            have HB2 : Hid (Below wc.heap.size wc w2) := HB1.out.grown hgr2 HB1.out.size (fun j hj => own_blk HOc.out hj)
            clear hor hgr2
            have HB9 := hid (below_step HB2.out (drawn_below1 w2))
            have HG9 := hid (HGq.out.later HB9.out)
            have hbx9 := HG9.out.box
            rw [HGv.out] at hbx9
            have HOr9 := hid (ownsRow_later HOr.out (drawn_below1 w2))
            obtain ⟨cl, hcl9⟩ : ∃ cl, cl = ((st.drop gc).map (ndI M')).length := ⟨_, rfl⟩
            have hclA : cl = arN sig (cn : Int) := by rw [hcl9, List.length_map, List.length_drop]; omega
            obtain ⟨co, cc, hcv9⟩ : ∃ co cc, cv = .slice co cl cc := by
              rcases HOr9.out.2 with ⟨h8, h9⟩ | ⟨g8, c8, cur8, h8, _⟩
              · exact ⟨none, 0, by rw [h8, hcl9, h9]⟩
              · exact ⟨_, c8, by rw [h8, hcl9]⟩
            subst hcv9
            rw [← hcl9] at HOr9
            have HAo : Hid (Calls Tryd.prog 61 #[.int .i64 (cn : Int), .slice co cl cc] w2.drew (GOut 94 sig w wc mb B M.length M (.slice (some ⟨sg, soff, none⟩) sig.length sc) (.slice (some ⟨b, off, none⟩) t.length cap) gv (some ⟨gb, 0, none⟩) st.length gc gc (t.drop (t.length - (k + 1))))) := by
              show Calls _ _ _ _ _
              rw [HC2.out]
              exact app_out HGq.out HGv.out (by omega) hclN hrA HX.out (by omega) hclA HOr9.out HB9.out
            have hrc : gc ≤ gc := by omega
            clear HOr HOc HB1 HB2 hclA hcl9
            gi_upto_region 9 with fail
            refine wpIn_region_any mixed ?_
            change wpAnyIn _ _ _ _ _ _ _ _ _ (World.drew _)
            refine wpAnyIn_round (F := Fence.wide) l (by kernel_rfl) _ _ _ _ ?_
            refine wpAnyIn_take (i := 1) (v := .int .i64 (gc : Int)) rfl rfl (by kernel_rfl) (by kernel_rfl) (by kernel_rfl) (fun _ _ _ h => h) ⟨Or.inl ⟨by rfl, ?_⟩, fun _ => rfl⟩ ?_
            · intro wx
              go_simp
            refine wpAnyIn_take (i := 3) (v := .int .i64 (cn : Int)) rfl rfl (by kernel_rfl) (by kernel_rfl) (by kernel_rfl) (fun _ _ _ h => h) ⟨Or.inl ⟨by rfl, ?_⟩, fun _ => rfl⟩ ?_
            · intro wx
              go_simp
            refine wpAnyIn_take (i := 4) (v := .slice co cl cc) rfl rfl (by kernel_rfl) (by kernel_rfl) (by kernel_rfl) (fun _ _ _ h => h) ⟨Or.inl ⟨by rfl, ?_⟩, fun _ => rfl⟩ ?_
            · intro wx
              go_simp
            refine wpAnyIn_ready (rs := [0, 5]) (by kernel_rfl) (by simp) ?_
            refine AllReadyIn.cons rfl (fun K hK => ?_) ?_
            · go_simp
              refine hK _ _ ?_
              clear hK K
              refine wpAnyIn_take (i := 2) (v := .slice (some ⟨gb, 0, none⟩) gc gc) rfl rfl (by kernel_rfl) (by kernel_rfl) (by kernel_rfl) (fun _ _ _ h => h) ⟨Or.inl ⟨by rfl, ?_⟩, fun _ => rfl⟩ ?_
              · intro wx
                go_simp
              refine wpAnyIn_ready (rs := [5]) (by kernel_rfl) (by simp) ?_
              refine AllReadyIn.cons rfl (fun K hK => ?_) ?_
              · go_simp
                refine ⟨trivial, ?_⟩
                refine (callsIn_wide.2 HAo.out).mono ?_
                rintro e w3 ⟨p, rfl, q1, g, cp, W2, hr2, hb2, hf2, hk2, hg2⟩
                have q2 : (w3.alloc (.cells #[.iface 94 (.pointer p)] 64)).cell? ⟨w.heap.size + 2, 0, none⟩ = some (.slice (some ⟨gb, 0, none⟩) st.length gc) := (Kp.of_below (below_alloc _)).cell _ _ q1
                have HR2 := hid hr2
                have HK2 := hid hk2
                have HG2 := hid hg2
                clear hr2 hk2 hg2
                refine hK _ _ ?_
                clear hK K
                refine wpAnyIn_take (i := 6) (v := .iface 94 (.pointer p)) rfl rfl (by kernel_rfl) (by kernel_rfl) (by kernel_rfl) (fun _ _ _ h => h) ⟨Or.inl ⟨by rfl, ?_⟩, fun _ => rfl⟩ ?_
                · intro wx
                  go_simp
                refine wpAnyIn_ready (rs := [7]) (by kernel_rfl) (by simp) ?_
                refine AllReadyIn.cons rfl (fun K hK => ?_) ?_
                · go_simp
                  refine hK _ _ ?_
                  clear hK K
                  refine wpAnyIn_ready (rs := [8]) (by kernel_rfl) (by simp) ?_
                  refine AllReadyIn.cons rfl (fun K hK => ?_) ?_
                  · rw [if_pos (by rfl)]
                    refine operIn_append_run _ _ _ rfl _ _ rfl rfl HR2.out ?_
                    refine hK _ _ ?_
                    clear hK K
                    refine wpAnyIn_ready (rs := [9]) (by kernel_rfl) (by simp) ?_
                    refine AllReadyIn.cons rfl (fun K hK => ?_) ?_
                    · go_simp
                      refine hK _ _ ?_
                      clear hK K
                      refine wpAnyIn_done (by kernel_rfl) ?_ _
                      gi_wp2_with fail
                      exact ⟨HKq.out.trans HK2.out, HG2.out⟩
                    exact AllReadyIn.nil
                  exact AllReadyIn.nil
                exact AllReadyIn.nil
              exact AllReadyIn.nil
            refine AllReadyIn.cons rfl (fun K hK => ?_) ?_
            · go_simp
              refine ⟨trivial, ?_⟩
              refine (callsIn_wide.2 HAo.out).mono ?_
              rintro e w3 ⟨p, rfl, q1, g, cp, W2, hr2, hb2, hf2, hk2, hg2⟩
              have q2 : (w3.alloc (.cells #[.iface 94 (.pointer p)] 64)).cell? ⟨w.heap.size + 2, 0, none⟩ = some (.slice (some ⟨gb, 0, none⟩) st.length gc) := (Kp.of_below (below_alloc _)).cell _ _ q1
              have HR2 := hid hr2
              have HK2 := hid hk2
              have HG2 := hid hg2
              clear hr2 hk2 hg2
              refine hK _ _ ?_
              clear hK K
              refine wpAnyIn_take (i := 6) (v := .iface 94 (.pointer p)) rfl rfl (by kernel_rfl) (by kernel_rfl) (by kernel_rfl) (fun _ _ _ h => h) ⟨Or.inl ⟨by rfl, ?_⟩, fun _ => rfl⟩ ?_
              · intro wx
                go_simp
              refine wpAnyIn_ready (rs := [0, 7]) (by kernel_rfl) (by simp) ?_
              refine AllReadyIn.cons rfl (fun K hK => ?_) ?_
              · go_simp
                refine hK _ _ ?_
                clear hK K
                refine wpAnyIn_take (i := 2) (v := .slice (some ⟨gb, 0, none⟩) gc gc) rfl rfl (by kernel_rfl) (by kernel_rfl) (by kernel_rfl) (fun _ _ _ h => h) ⟨Or.inl ⟨by rfl, ?_⟩, fun _ => rfl⟩ ?_
                · intro wx
                  go_simp
                refine wpAnyIn_ready (rs := [7]) (by kernel_rfl) (by simp) ?_
                refine AllReadyIn.cons rfl (fun K hK => ?_) ?_
                · go_simp
                  refine hK _ _ ?_
                  clear hK K
                  refine wpAnyIn_ready (rs := [8]) (by kernel_rfl) (by simp) ?_
                  refine AllReadyIn.cons rfl (fun K hK => ?_) ?_
                  · rw [if_pos (by rfl)]
                    refine operIn_append_run _ _ _ rfl _ _ rfl rfl HR2.out ?_
                    refine hK _ _ ?_
                    clear hK K
                    refine wpAnyIn_ready (rs := [9]) (by kernel_rfl) (by simp) ?_
                    refine AllReadyIn.cons rfl (fun K hK => ?_) ?_
                    · go_simp
                      refine hK _ _ ?_
                      clear hK K
                      refine wpAnyIn_done (by kernel_rfl) ?_ _
                      gi_wp2_with fail
                      exact ⟨HKq.out.trans HK2.out, HG2.out⟩
                    exact AllReadyIn.nil
                  exact AllReadyIn.nil
                exact AllReadyIn.nil
              refine AllReadyIn.cons rfl (fun K hK => ?_) ?_
              · go_simp
                refine hK _ _ ?_
                clear hK K
                refine wpAnyIn_ready (rs := [0]) (by kernel_rfl) (by simp) ?_
                refine AllReadyIn.cons rfl (fun K hK => ?_) ?_
                · go_simp
                  refine hK _ _ ?_
                  clear hK K
                  refine wpAnyIn_take (i := 2) (v := .slice (some ⟨gb, 0, none⟩) gc gc) rfl rfl (by kernel_rfl) (by kernel_rfl) (by kernel_rfl) (fun _ _ _ h => h) ⟨Or.inl ⟨by rfl, ?_⟩, fun _ => rfl⟩ ?_
                  · intro wx
                    go_simp
                  refine wpAnyIn_ready (rs := [8]) (by kernel_rfl) (by simp) ?_
                  refine AllReadyIn.cons rfl (fun K hK => ?_) ?_
                  · rw [if_pos (by rfl)]
                    refine operIn_append_run _ _ _ rfl _ _ rfl rfl HR2.out ?_
                    refine hK _ _ ?_
                    clear hK K
                    refine wpAnyIn_ready (rs := [9]) (by kernel_rfl) (by simp) ?_
                    refine AllReadyIn.cons rfl (fun K hK => ?_) ?_
                    · go_simp
                      refine hK _ _ ?_
                      clear hK K
                      refine wpAnyIn_done (by kernel_rfl) ?_ _
                      gi_wp2_with fail
                      exact ⟨HKq.out.trans HK2.out, HG2.out⟩
                    exact AllReadyIn.nil
                  exact AllReadyIn.nil
                exact AllReadyIn.nil
              exact AllReadyIn.nil
            exact AllReadyIn.nil
          · have HSl : Hid (RdV wc (.slice (some ⟨gb, r, none⟩) (st.length - r) (gc - r)) ((st.drop r).map (ndI M'))) := by
              refine .inr ⟨gb, r, gc - r, by rw [List.length_map, List.length_drop], fun j u hj => ?_⟩
              rw [List.map_drop, List.getElem?_drop] at hj
              have h9 := HGq.out.own
              rw [HGv.out] at h9
              rw [World.ownsRow.cellAt h9 (r + j) (by have := (List.getElem?_eq_some_iff.1 hj).1; rw [List.length_map] at this; omega)]
              exact hj
            gi_wp2_with fail
            refine ⟨trivial, ?_⟩
            refine (CallsIn.inRound l (callsIn_wide.2 (cloneT6_any _ ((st.drop r).map (ndI M')) _ HSl.out (fun u hu => (HIf.out _ u hu).one) (by rw [List.length_map, List.length_drop]; omega)))).mono ?_
            rintro e w1 ⟨cv, rfl, hoc, hbc⟩
            have HOc := hid hoc
            have HB1 := hid hbc
            clear hoc hbc
            gi_wp2_with fail
            refine ⟨trivial, ?_⟩
            refine (CallsIn.inRound l (callsIn_wide.2 (reverseT6_any cv ((st.drop r).map (ndI M')) _ w1 HOc.out (fun u hu => HIf.out _ u hu)))).mono ?_
            rintro e w2 ⟨rfl, hor, hgr2⟩
            have HOr := hid hor
            have HB2 : Hid (Below wc.heap.size wc w2) := HB1.out.grown hgr2 HB1.out.size (fun j hj => own_blk HOc.out hj)
            clear hor hgr2
            have HB9 := hid (below_step HB2.out (drawn_below1 w2))
            have HG9 := hid (HGq.out.later HB9.out)
            have hbx9 := HG9.out.box
            rw [HGv.out] at hbx9
            have HOr9 := hid (ownsRow_later HOr.out (drawn_below1 w2))
            obtain ⟨cl, hcl9⟩ : ∃ cl, cl = ((st.drop r).map (ndI M')).length := ⟨_, rfl⟩
            have hclA : cl = arN sig (cn : Int) := by rw [hcl9, List.length_map, List.length_drop]; omega
            obtain ⟨co, cc, hcv9⟩ : ∃ co cc, cv = .slice co cl cc := by
              rcases HOr9.out.2 with ⟨h8, h9⟩ | ⟨g8, c8, cur8, h8, _⟩
              · exact ⟨none, 0, by rw [h8, hcl9, h9]⟩
              · exact ⟨_, c8, by rw [h8, hcl9]⟩
            subst hcv9
            rw [← hcl9] at HOr9
            have HAo : Hid (Calls Tryd.prog 61 #[.int .i64 (cn : Int), .slice co cl cc] w2.drew (GOut 94 sig w wc mb B M.length M (.slice (some ⟨sg, soff, none⟩) sig.length sc) (.slice (some ⟨b, off, none⟩) t.length cap) gv (some ⟨gb, 0, none⟩) st.length gc r (t.drop (t.length - (k + 1))))) := by
              show Calls _ _ _ _ _
              rw [HC2.out]
              exact app_out HGq.out HGv.out (by omega) hclN hrA HX.out (by omega) hclA HOr9.out HB9.out
            have hrc : r ≤ gc := by omega
            clear HOr HOc HB1 HB2 hclA hcl9
            gi_upto_region 9 with fail
            refine wpIn_region_any mixed ?_
            change wpAnyIn _ _ _ _ _ _ _ _ _ (World.drew _)
            refine wpAnyIn_round (F := Fence.wide) l (by kernel_rfl) _ _ _ _ ?_
            refine wpAnyIn_take (i := 1) (v := .int .i64 (r : Int)) rfl rfl (by kernel_rfl) (by kernel_rfl) (by kernel_rfl) (fun _ _ _ h => h) ⟨Or.inl ⟨by rfl, ?_⟩, fun _ => rfl⟩ ?_
            · intro wx
              go_simp
            refine wpAnyIn_take (i := 3) (v := .int .i64 (cn : Int)) rfl rfl (by kernel_rfl) (by kernel_rfl) (by kernel_rfl) (fun _ _ _ h => h) ⟨Or.inl ⟨by rfl, ?_⟩, fun _ => rfl⟩ ?_
            · intro wx
              go_simp
            refine wpAnyIn_take (i := 4) (v := .slice co cl cc) rfl rfl (by kernel_rfl) (by kernel_rfl) (by kernel_rfl) (fun _ _ _ h => h) ⟨Or.inl ⟨by rfl, ?_⟩, fun _ => rfl⟩ ?_
            · intro wx
              go_simp
            refine wpAnyIn_ready (rs := [0, 5]) (by kernel_rfl) (by simp) ?_
            refine AllReadyIn.cons rfl (fun K hK => ?_) ?_
            · go_simp
              refine hK _ _ ?_
              clear hK K
              refine wpAnyIn_take (i := 2) (v := .slice (some ⟨gb, 0, none⟩) r gc) rfl rfl (by kernel_rfl) (by kernel_rfl) (by kernel_rfl) (fun _ _ _ h => h) ⟨Or.inl ⟨by rfl, ?_⟩, fun _ => rfl⟩ ?_
              · intro wx
                go_simp
              refine wpAnyIn_ready (rs := [5]) (by kernel_rfl) (by simp) ?_
              refine AllReadyIn.cons rfl (fun K hK => ?_) ?_
              · go_simp
                refine ⟨trivial, ?_⟩
                refine (callsIn_wide.2 HAo.out).mono ?_
                rintro e w3 ⟨p, rfl, q1, g, cp, W2, hr2, hb2, hf2, hk2, hg2⟩
                have q2 : (w3.alloc (.cells #[.iface 94 (.pointer p)] 64)).cell? ⟨w.heap.size + 2, 0, none⟩ = some (.slice (some ⟨gb, 0, none⟩) st.length gc) := (Kp.of_below (below_alloc _)).cell _ _ q1
                have HR2 := hid hr2
                have HK2 := hid hk2
                have HG2 := hid hg2
                clear hr2 hk2 hg2
                refine hK _ _ ?_
                clear hK K
                refine wpAnyIn_take (i := 6) (v := .iface 94 (.pointer p)) rfl rfl (by kernel_rfl) (by kernel_rfl) (by kernel_rfl) (fun _ _ _ h => h) ⟨Or.inl ⟨by rfl, ?_⟩, fun _ => rfl⟩ ?_
                · intro wx
                  go_simp
                refine wpAnyIn_ready (rs := [7]) (by kernel_rfl) (by simp) ?_
                refine AllReadyIn.cons rfl (fun K hK => ?_) ?_
                · go_simp
                  refine hK _ _ ?_
                  clear hK K
                  refine wpAnyIn_ready (rs := [8]) (by kernel_rfl) (by simp) ?_
                  refine AllReadyIn.cons rfl (fun K hK => ?_) ?_
                  · rw [if_pos (by rfl)]
                    refine operIn_append_run _ _ _ rfl _ _ rfl rfl HR2.out ?_
                    refine hK _ _ ?_
                    clear hK K
                    refine wpAnyIn_ready (rs := [9]) (by kernel_rfl) (by simp) ?_
                    refine AllReadyIn.cons rfl (fun K hK => ?_) ?_
                    · go_simp
                      refine hK _ _ ?_
                      clear hK K
                      refine wpAnyIn_done (by kernel_rfl) ?_ _
                      gi_wp2_with fail
                      exact ⟨HKq.out.trans HK2.out, HG2.out⟩
                    exact AllReadyIn.nil
                  exact AllReadyIn.nil
                exact AllReadyIn.nil
              exact AllReadyIn.nil
            refine AllReadyIn.cons rfl (fun K hK => ?_) ?_
            · go_simp
              refine ⟨trivial, ?_⟩
              refine (callsIn_wide.2 HAo.out).mono ?_
              rintro e w3 ⟨p, rfl, q1, g, cp, W2, hr2, hb2, hf2, hk2, hg2⟩
              have q2 : (w3.alloc (.cells #[.iface 94 (.pointer p)] 64)).cell? ⟨w.heap.size + 2, 0, none⟩ = some (.slice (some ⟨gb, 0, none⟩) st.length gc) := (Kp.of_below (below_alloc _)).cell _ _ q1
              have HR2 := hid hr2
              have HK2 := hid hk2
              have HG2 := hid hg2
              clear hr2 hk2 hg2
              refine hK _ _ ?_
              clear hK K
              refine wpAnyIn_take (i := 6) (v := .iface 94 (.pointer p)) rfl rfl (by kernel_rfl) (by kernel_rfl) (by kernel_rfl) (fun _ _ _ h => h) ⟨Or.inl ⟨by rfl, ?_⟩, fun _ => rfl⟩ ?_
              · intro wx
                go_simp
              refine wpAnyIn_ready (rs := [0, 7]) (by kernel_rfl) (by simp) ?_
              refine AllReadyIn.cons rfl (fun K hK => ?_) ?_
              · go_simp
                refine hK _ _ ?_
                clear hK K
                refine wpAnyIn_take (i := 2) (v := .slice (some ⟨gb, 0, none⟩) r gc) rfl rfl (by kernel_rfl) (by kernel_rfl) (by kernel_rfl) (fun _ _ _ h => h) ⟨Or.inl ⟨by rfl, ?_⟩, fun _ => rfl⟩ ?_
                · intro wx
                  go_simp
                refine wpAnyIn_ready (rs := [7]) (by kernel_rfl) (by simp) ?_
                refine AllReadyIn.cons rfl (fun K hK => ?_) ?_
                · go_simp
                  refine hK _ _ ?_
                  clear hK K
                  refine wpAnyIn_ready (rs := [8]) (by kernel_rfl) (by simp) ?_
                  refine AllReadyIn.cons rfl (fun K hK => ?_) ?_
                  · rw [if_pos (by rfl)]
                    refine operIn_append_run _ _ _ rfl _ _ rfl rfl HR2.out ?_
                    refine hK _ _ ?_
                    clear hK K
                    refine wpAnyIn_ready (rs := [9]) (by kernel_rfl) (by simp) ?_
                    refine AllReadyIn.cons rfl (fun K hK => ?_) ?_
                    · go_simp
                      refine hK _ _ ?_
                      clear hK K
                      refine wpAnyIn_done (by kernel_rfl) ?_ _
                      gi_wp2_with fail
                      exact ⟨HKq.out.trans HK2.out, HG2.out⟩
                    exact AllReadyIn.nil
                  exact AllReadyIn.nil
                exact AllReadyIn.nil
              refine AllReadyIn.cons rfl (fun K hK => ?_) ?_
              · go_simp
                refine hK _ _ ?_
                clear hK K
                refine wpAnyIn_ready (rs := [0]) (by kernel_rfl) (by simp) ?_
                refine AllReadyIn.cons rfl (fun K hK => ?_) ?_
                · go_simp
                  refine hK _ _ ?_
                  clear hK K
                  refine wpAnyIn_take (i := 2) (v := .slice (some ⟨gb, 0, none⟩) r gc) rfl rfl (by kernel_rfl) (by kernel_rfl) (by kernel_rfl) (fun _ _ _ h => h) ⟨Or.inl ⟨by rfl, ?_⟩, fun _ => rfl⟩ ?_
                  · intro wx
                    go_simp
                  refine wpAnyIn_ready (rs := [8]) (by kernel_rfl) (by simp) ?_
                  refine AllReadyIn.cons rfl (fun K hK => ?_) ?_
                  · rw [if_pos (by rfl)]
                    refine operIn_append_run _ _ _ rfl _ _ rfl rfl HR2.out ?_
                    refine hK _ _ ?_
                    clear hK K
                    refine wpAnyIn_ready (rs := [9]) (by kernel_rfl) (by simp) ?_
                    refine AllReadyIn.cons rfl (fun K hK => ?_) ?_
                    · go_simp
                      refine hK _ _ ?_
                      clear hK K
                      refine wpAnyIn_done (by kernel_rfl) ?_ _
                      gi_wp2_with fail
                      exact ⟨HKq.out.trans HK2.out, HG2.out⟩
                    exact AllReadyIn.nil
                  exact AllReadyIn.nil
                exact AllReadyIn.nil
              exact AllReadyIn.nil
            exact AllReadyIn.nil
  case done =>
    rintro D W hD ⟨gv, M', L', st, hg, hX⟩ hdf
    rw [show t.length - t.length = 0 by omega, List.drop_zero] at hg
    obtain ⟨r, rfl, htm, hbel⟩ := gr_done HA.out hg.gr HR.out
    obtain ⟨gb, gc, hgv, hgc⟩ : ∃ gb gc, gv = .slice (some ⟨gb, 0, none⟩) 1 gc ∧ 1 ≤ gc := by
      rcases hg.own.2 with ⟨_, h9⟩ | ⟨g8, c8, cur8, h8, _, _, h9, _⟩
      · cases h9
      · exact ⟨g8, c8, h8, h9⟩
    have hbx := hg.box
    rw [hgv] at hbx
    have hown := hg.own
    rw [hgv] at hown
    have hcell := World.ownsRow.cellAt hown 0 (by simp)
    simp only [List.map_cons, List.map_nil, List.getElem?_cons_zero] at hcell
    have HG := hid hg
    have HT := hid htm
    have HBe := hid hbel
    have HX := hid hX
    clear hown hg htm hbel hX
    gi_wp2_with fail
    refine ⟨by simp, .inl ⟨_, _, rfl, run_takeDeferred hdf, ?_⟩⟩
    have hgp := HG.out.put (o' := .deferred none) (by simpa using hD) hdf rfl
    have hfw := hgp.gr.few
    rw [List.length_map] at hfw
    exact ⟨_, results_tmp rfl _ _ _, M', L', r, rfl, hgp.map, hgp.vm, hgp.few, hgp.bd.of_only, hgp.gr.ok, HX.out, HT.out, fun i h1 h2 => HBe.out i h1 (by rw [List.length_map]; exact h2), hfw, hgp.grown⟩

end Go.Proofs.YtelacmijkbgliaaDoor
