/- A table closed: package prec's closed and hasCycle. -/
import Derived.Test.YtagndlcpcggmpaaTPrcB
import Derived.Deep.WholeRow
namespace Go.Proofs.Ytagndlcpcggmpaa
open Go.RowKit Go.Maps

set_option maxRecDepth 100000 in
theorem zero_table : (Try.prog.info? 43).map (fun i => (i.zero, i.size)) = some (some (.agg (cellsT zeroT)), 256) := by kernel_rfl

theorem run_zero_table (w : World) : (zeroValue 43).run Try.prog w = .ok (.agg (cellsT zeroT)) w := (zero_of_info zero_table).1 w

/-- What the words of a block come to. -/
def sumW (w : World) (g : Nat) : Nat :=
  match w.heap[g]? with
  | some (.cells cs _ _) => (cs.toList.map fun v => (intOf v).toNat).sum
  | _ => 0

theorem sumW_tab {t : TypeId} {w : World} {g : Nat} {T : List Nat} (h : Tb t w g T) : sumW w g = T.sum := by
  unfold Tb at h
  unfold sumW
  rw [h]
  simp only [cellsT, List.map_map]
  congr 1
  have : (fun v => (intOf v).toNat) ∘ U64 = id := by
    funext x
    simp [U64, intOf]
  rw [this, List.map_id]

/-- The state of the closing between rounds: T as it was, U as it is, gone through as far as (f, g). -/
structure PCI (B : Nat → Nat → Prop) (T : List Nat) (w : World) (G f g : Nat) (U : List Nat) (wr : World) : Prop where
  tab : Tab U
  mid : Mid B U
  le : LeT T U
  far : Far T U f g
  t : Tb 43 wr w.heap.size U
  z : Tb 43 wr (w.heap.size + 1) zeroT
  was : Tb 43 wr G T
  gt : w.heap.size + 2 ≤ G
  below : Below w.heap.size w wr

theorem PCI.later {B : Nat → Nat → Prop} {T : List Nat} {w : World} {G f g : Nat} {U : List Nat} {wr w' : World} (h : PCI B T w G f g U wr) (hb : Below wr.heap.size wr w') : PCI B T w G f g U w' :=
  ⟨h.tab, h.mid, h.le, h.far, h.t.later hb, h.z.later hb, h.was.later hb, h.gt, h.below.trans (hb.mono h.below.size)⟩

theorem hasN_row {U : List Nat} {f g a b : Nat} (hg : g < 128) (h1 : U[f * 2]? = some a) (h2 : U[f * 2 + 1]? = some b) : rowHas a b g = hasN U f g := by
  unfold rowHas hasN
  by_cases h : g < 64
  · rw [if_pos h, show 2 * f + g / 64 = f * 2 by omega, h1]
    rfl
  · rw [if_neg h, show 2 * f + g / 64 = f * 2 + 1 by omega, h2]
    rfl

theorem orN_row {U : List Nat} {f g a b c d : Nat} (h1 : U[f * 2]? = some a) (h2 : U[f * 2 + 1]? = some b) (h3 : U[g * 2]? = some c) (h4 : U[g * 2 + 1]? = some d) :
    (U[f * 2]? = some a ∧ U[f * 2 + 1]? = some b ∧ U[g * 2]? = some c ∧ U[g * 2 + 1]? = some d) ∧ (U.set (f * 2) (a ||| c)).set (f * 2 + 1) (b ||| d) = orN U f g := by
  refine ⟨⟨h1, h2, h3, h4⟩, ?_⟩
  unfold orN
  rw [show 2 * f = f * 2 by omega, show 2 * g = g * 2 by omega, h1, h2, h3, h4]
  rfl

theorem pci_or {B : Nat → Nat → Prop} {T : List Nat} {w : World} {G f g a b c d : Nat} {U : List Nat} {wr : World} (h : PCI B T w G f g U wr) (hf : f < 128) (hg : g < 128) (hh : hasN U f g = true) (ho : (U.set (f * 2) (a ||| c)).set (f * 2 + 1) (b ||| d) = orN U f g) (hT : Tab T) :
    PCI B T w G f (g + 1) (orN U f g) ((wr.setCell ⟨w.heap.size, f * 2, none⟩ (.int .u64 ((a ||| c : Nat) : Int))).setCell ⟨w.heap.size, f * 2 + 1, none⟩ (.int .u64 ((b ||| d : Nat) : Int))) := by
  have hG := h.gt
  refine ⟨h.tab.orN f g, h.mid.orN h.tab hf hg hh, h.le.trans (LeT.orN h.tab hf), h.far.orN h.tab hT h.le hf, ?_, ?_, ?_, hG, ?_⟩
  · have := (h.t.set (f * 2) (a ||| c)).set (f * 2 + 1) (b ||| d)
    rw [ho] at this
    exact this
  · exact (h.z.setOther (by omega)).setOther (by omega)
  · exact (h.was.setOther (by omega)).setOther (by omega)
  · exact (h.below.setCell (p := ⟨w.heap.size, f * 2, none⟩) (Nat.le_refl _) _).setCell (p := ⟨w.heap.size, f * 2 + 1, none⟩) (Nat.le_refl _) _

set_option maxRecDepth 100000 in
set_option maxHeartbeats 3200000 in
theorem closed_any (B : Nat → Nat → Prop) (T : List Nat) (w : World) (hT : Tab T) (hM : Mid B T) :
    Calls Try.prog 16 #[.agg (cellsT T)] w fun e w' => ∃ U : List Nat, e = .returned (.agg (cellsT U)) ∧ Tab U ∧ ((∀ i j, B i j → TR U i j) ∧ Tr (TR U) ∧ ∀ S : Nat → Nat → Prop, (∀ i j, B i j → S i j) → Tr S → ∀ i j, TR U i j → S i j) ∧ Below w.heap.size w w' := by
  have hz := run_zero_table
  go_enter Try.func16, Try.ntmps16
  go_wp2
  go_loopw [] (fun wr => ∃ T : List Nat, Tab T ∧ Mid B T ∧ Tb 43 wr w.heap.size T ∧ Tb 43 wr (w.heap.size + 1) zeroT ∧ Below w.heap.size w wr) (fun wr => 256 * 18446744073709551616 - sumW wr w.heap.size)
  case atStart =>
    exact ⟨T, hT, hM, heap_alloc2_old _ _ _, heap_alloc2_new _ _ _, below_step (below_alloc _) (below_alloc _)⟩
  case round =>
    clear hT hM
    obtain ⟨T, hT, hM, h1, h2, hbl⟩ := hrel
    have HT : Hid (Tab T) := hT
    have HM : Hid (Mid B T) := hM
    have H1 : Hid (Tb 43 wr w.heap.size T) := h1
    have H2 : Hid (Tb 43 wr (w.heap.size + 1) zeroT) := h2
    have HB : Hid (Below w.heap.size w wr) := hbl
    clear hT hM h1 h2 hbl
    go_wp2_with (first
      | (refine wpList_load_row rfl _ _ rfl w.heap.size rfl _ _ _ _ H1.out under_table rfl (by rw [info_table, cellsT_size, HT.out.len]) ?_)
      | (refine wpList_store_row rfl _ _ _ rfl wr.heap.size (cellsT T) rfl rfl _ _ (heap_alloc_new _ _) (by rw [info_table, cellsT_size, HT.out.len]) (by rw [cellsT_size, cellsT_size, HT.out.len]; rfl) (cellsT_one _) ?_))
    rw [World.setRow_alloc_new]
    have hst : PCI B T w wr.heap.size 0 0 T (wr.alloc (.cells (cellsT T) 43)) :=
      ⟨HT.out, HM.out, LeT.refl _, Far.start _, H1.out.later (below_alloc _), H2.out.later (below_alloc _), heap_alloc_new _ _, by have := H2.out.lt; omega, HB.out.trans ((below_alloc _).mono HB.out.size)⟩
    obtain ⟨W1, hW1⟩ : ∃ X, X = wr.alloc (.cells (cellsT T) 43) := ⟨_, rfl⟩
    obtain ⟨G, hG⟩ : ∃ X, X = wr.heap.size := ⟨_, rfl⟩
    have hsum := sumW_tab H1.out
    rw [← hW1, ← hG] at hst ⊢
    have HS : Hid (PCI B T w G 0 0 T W1) := hst
    clear hW1 hst H1 H2 HB HM hG
    go_loopw [7] (fun i wr => ∃ (f : Nat) (U : List Nat), f ≤ 128 ∧ i = .int .i64 f ∧ PCI B T w G f 0 U wr) (fun i _ => 128 - (intOf i).toNat)
    case atStart => exact ⟨0, T, by omega, rfl, HS.out⟩
    case round =>
      obtain ⟨f, U, hf, rfl, hI⟩ := hrel
      have HI : Hid (PCI B T w G f 0 U wr) := hI
      clear hI
      by_cases hf2 : f < 128
      · have hfd : decide ((f : Int) < 128) = true := by simp; omega
        go_wp2
        go_loopw [10] (fun i wr => ∃ (g : Nat) (U : List Nat), g ≤ 128 ∧ i = .int .i64 g ∧ PCI B T w G f g U wr) (fun i _ => 128 - (intOf i).toNat)
        case atStart => exact ⟨0, U, by omega, rfl, HI.out⟩
        case round =>
          obtain ⟨g, U, hg, rfl, hI⟩ := hrel
          have HI2 : Hid (PCI B T w G f g U wr) := hI
          by_cases hg2 : g < 128
          · obtain ⟨a, ha, ha2⟩ := hI.tab.get (k := f * 2) (by omega)
            obtain ⟨b, hb, hb2⟩ := hI.tab.get (k := f * 2 + 1) (by omega)
            have c1 := hI.t.cell ha
            have c2 := hI.t.cell hb
            have hrow := hasN_row hg2 ha hb
            have HR : Hid (U[f * 2]? = some a ∧ U[f * 2 + 1]? = some b ∧ rowHas a b g = hasN U f g) := ⟨ha, hb, hrow⟩
            clear ha hb hrow hI HI
            go_wp2_with fail
            refine (has_any a b g wr ha2 hb2 hg2).mono ?_
            rintro e w2 ⟨rfl, hb3⟩
            rw [HR.out.2.2]
            have HI3 : Hid (PCI B T w G f g U w2) := HI2.out.later hb3
            clear hb3 c1 c2 HI2
            cases hh : hasN U f g with
            | false =>
              go_wp2
              go_roundw
              case rel =>
                have h := HI3.out
                exact ⟨g + 1, U, by omega, by go_num, ⟨h.tab, h.mid, h.le, h.far.skip hh, h.t, h.z, h.was, h.gt, h.below⟩⟩
              case measure => simp [intOf]; omega
            | true =>
              obtain ⟨c, hc, hc2⟩ := HI3.out.tab.get (k := g * 2) (by omega)
              obtain ⟨d, hd, hd2⟩ := HI3.out.tab.get (k := g * 2 + 1) (by omega)
              have c1 := HI3.out.t.cell HR.out.1
              have c2 := HI3.out.t.cell HR.out.2.1
              have c3 := HI3.out.t.cell hc
              have c4 := HI3.out.t.cell hd
              have HO := orN_row HR.out.1 HR.out.2.1 hc hd
              have HO2 := hidP HO
              clear hc hd HO HR
              go_wp2_with fail
              refine wp_region_held_drew (S := fun _ => True) (by kernel_rfl) trivial (fun _ => ?_)
              obtain ⟨w3, hw3⟩ : ∃ X, X = w2.drew := ⟨_, rfl⟩
              have HI4 : Hid (PCI B T w G f g U w3) := by rw [hw3]; exact HI3.out.later (Below.refl _ _).drew
              have c1 := HI4.out.t.cell HO2.out.1.1
              have c2 := HI4.out.t.cell HO2.out.1.2.1
              have c3 := HI4.out.t.cell HO2.out.1.2.2.1
              have c4 := HI4.out.t.cell HO2.out.1.2.2.2
              rw [← hw3]
              clear hw3 HI3
              have hfi : (f : Int) < 128 := by omega
              have hgi : (g : Int) < 128 := by omega
              refine wpAnyH_take (i := 0) (v := .int .i64 (f : Int)) rfl (by kernel_rfl) (by kernel_rfl) (by kernel_rfl) (fun _ _ _ h => h) (Or.inl ⟨by rfl, fun w' h => by go_simp⟩) trivial ?_
              simp only [Act.put, List.setIfInBounds_toArray]
              refine wpAnyH_take (i := 1) (v := .int .i64 (f : Int)) rfl (by kernel_rfl) (by kernel_rfl) (by kernel_rfl) (fun _ _ _ h => h) (Or.inl ⟨by rfl, fun w' h => by go_simp⟩) trivial ?_
              simp only [Act.put]
              refine wpAnyH_take (i := 2) (v := .pointer (some ⟨w.heap.size, f * 2, none⟩)) rfl (by kernel_rfl) (by kernel_rfl) (by kernel_rfl) (fun _ _ _ h => h) (Or.inl ⟨by rfl, fun w' h => by go_simp⟩) trivial ?_
              simp only [Act.put]
              refine wpAnyH_take (i := 4) (v := .int .i64 (g : Int)) rfl (by kernel_rfl) (by kernel_rfl) (by kernel_rfl) (fun _ _ _ h => h) (Or.inl ⟨by rfl, fun w' h => by go_simp⟩) trivial ?_
              simp only [Act.put]
              refine wpAnyH_take (i := 5) (v := .pointer (some ⟨w.heap.size, g * 2, none⟩)) rfl (by kernel_rfl) (by kernel_rfl) (by kernel_rfl) (fun _ _ _ h => h) (Or.inl ⟨by rfl, fun w' h => by go_simp⟩) trivial ?_
              simp only [Act.put]
              refine wpAnyH_ready (rs := [3, 6]) (by kernel_rfl) (by simp) (AllReadyH.cons rfl (fun K hK => ?_) (AllReadyH.cons rfl (fun K hK => ?_) AllReadyH.nil))
              · go_simp
                refine hK.out _ _ trivial (fun hS9 => ?_)
                clear hK K hS9
                try simp only [Act.put]
                refine wpAnyH_ready (rs := [6]) (by kernel_rfl) (by simp) (AllReadyH.cons rfl (fun K hK => ?_) AllReadyH.nil)
                go_simp
                refine hK.out _ _ trivial (fun hS9 => ?_)
                clear hK K hS9
                try simp only [Act.put]
                refine wpAnyH_ready (rs := [7]) (by kernel_rfl) (by simp) (AllReadyH.cons rfl (fun K hK => ?_) AllReadyH.nil)
                go_simp
                refine (withAll_any a b c d w3 ha2 hb2 hc2 hd2).mono ?_
                rintro e w4 ⟨rfl, hb4⟩
                have HI5 : Hid (PCI B T w G f g U w4) := HI4.out.later hb4
                clear c1 c2 c3 c4 hb4
                have c1 := HI5.out.t.cell HO2.out.1.1
                have c2 := HI5.out.t.cell HO2.out.1.2.1
                have c3 := HI5.out.t.frozen (f * 2)
                have c4 := HI5.out.t.frozen (f * 2 + 1)
                unfold rowV U64
                refine hK.out _ _ trivial (fun hS9 => ?_)
                clear hK K hS9
                refine wpAnyH_take (i := 8) (v := .pointer (some ⟨w.heap.size, f * 2, none⟩)) rfl (by kernel_rfl) (by kernel_rfl) (by kernel_rfl) (fun _ _ _ h => h) (Or.inl ⟨by rfl, fun w' h => by go_simp⟩) trivial ?_
                simp only [Act.put]
                refine wpAnyH_ready (rs := [9]) (by kernel_rfl) (by simp) (AllReadyH.cons rfl (fun K hK => ?_) AllReadyH.nil)
                go_simp
                refine hK.out _ _ trivial (fun hS9 => ?_)
                clear hK K hS9
                refine wpAnyH_done (by kernel_rfl) ?_ _
                have HJ := hidP (pci_or HI5.out hf2 hg2 hh HO2.out.2 HT.out)
                clear c1 c2 c3 c4 HI5 HI4 HO2
                go_wp2
                go_roundw
                case rel => exact ⟨g + 1, _, by omega, by go_num, HJ.out⟩
                case measure => simp [intOf]; omega
              · go_simp
                refine hK.out _ _ trivial (fun hS9 => ?_)
                clear hK K hS9
                try simp only [Act.put]
                refine wpAnyH_ready (rs := [3]) (by kernel_rfl) (by simp) (AllReadyH.cons rfl (fun K hK => ?_) AllReadyH.nil)
                go_simp
                refine hK.out _ _ trivial (fun hS9 => ?_)
                clear hK K hS9
                try simp only [Act.put]
                refine wpAnyH_ready (rs := [7]) (by kernel_rfl) (by simp) (AllReadyH.cons rfl (fun K hK => ?_) AllReadyH.nil)
                go_simp
                refine (withAll_any a b c d w3 ha2 hb2 hc2 hd2).mono ?_
                rintro e w4 ⟨rfl, hb4⟩
                have HI5 : Hid (PCI B T w G f g U w4) := HI4.out.later hb4
                clear c1 c2 c3 c4 hb4
                have c1 := HI5.out.t.cell HO2.out.1.1
                have c2 := HI5.out.t.cell HO2.out.1.2.1
                have c3 := HI5.out.t.frozen (f * 2)
                have c4 := HI5.out.t.frozen (f * 2 + 1)
                unfold rowV U64
                refine hK.out _ _ trivial (fun hS9 => ?_)
                clear hK K hS9
                refine wpAnyH_take (i := 8) (v := .pointer (some ⟨w.heap.size, f * 2, none⟩)) rfl (by kernel_rfl) (by kernel_rfl) (by kernel_rfl) (fun _ _ _ h => h) (Or.inl ⟨by rfl, fun w' h => by go_simp⟩) trivial ?_
                simp only [Act.put]
                refine wpAnyH_ready (rs := [9]) (by kernel_rfl) (by simp) (AllReadyH.cons rfl (fun K hK => ?_) AllReadyH.nil)
                go_simp
                refine hK.out _ _ trivial (fun hS9 => ?_)
                clear hK K hS9
                refine wpAnyH_done (by kernel_rfl) ?_ _
                have HJ := hidP (pci_or HI5.out hf2 hg2 hh HO2.out.2 HT.out)
                clear c1 c2 c3 c4 HI5 HI4 HO2
                go_wp2
                go_roundw
                case rel => exact ⟨g + 1, _, by omega, by go_num, HJ.out⟩
                case measure => simp [intOf]; omega
          · obtain rfl : g = 128 := by omega
            clear hI HI
            go_wp2
            go_roundw
            case rel =>
              have h := HI2.out
              exact ⟨f + 1, U, by omega, by go_num, ⟨h.tab, h.mid, h.le, h.far.row, h.t, h.z, h.was, h.gt, h.below⟩⟩
            case measure => simp [intOf]; omega
      · obtain rfl : f = 128 := by omega
        have e1 := fun w => run_eql_tab w HI.out.tab.len HT.out.len
        by_cases hUT : U = T
        · subst hUT
          go_wp2_with (first
            | (refine wpList_load_row rfl _ _ rfl w.heap.size rfl _ _ _ _ HI.out.t under_table rfl (by rw [info_table, cellsT_size, HI.out.tab.len]) ?_)
            | (refine wpList_load_row rfl _ _ rfl G rfl _ _ _ _ HI.out.was under_table rfl (by rw [info_table, cellsT_size, HT.out.len]) ?_)
            | (refine wpList_store_row rfl _ _ _ rfl (w.heap.size + 1) (cellsT U) rfl rfl _ _ HI.out.z (by rw [info_table, cellsT_size, HT.out.len]) (by rw [cellsT_size, cellsT_size, HT.out.len]; rfl) (cellsT_one _) ?_))
          refine bodyPost_ret (results_cell_row rfl _ _ (w.heap.size + 1) _ (cellsT U) (0, 0) _ rfl (setRow_heap wr _ _ _ _ _ HI.out.z) under_table rfl (by rw [info_table, cellsT_size, HT.out.len])) rfl ?_
          exact ⟨U, rfl, HT.out, HI.out.mid.closed HI.out.far, below_setRow HI.out.below (by omega)⟩
        · go_wp2_with (first
            | (refine wpList_load_row rfl _ _ rfl w.heap.size rfl _ _ _ _ HI.out.t under_table rfl (by rw [info_table, cellsT_size, HI.out.tab.len]) ?_)
            | (refine wpList_load_row rfl _ _ rfl G rfl _ _ _ _ HI.out.was under_table rfl (by rw [info_table, cellsT_size, HT.out.len]) ?_))
          refine ⟨⟨U, HI.out.tab, HI.out.mid, HI.out.t, HI.out.z, HI.out.below⟩, ?_⟩
          rw [hsum, sumW_tab HI.out.t]
          have h1 := sum_lt HT.out HI.out.tab HI.out.le (fun e => hUT e.symm)
          have h2 := HI.out.tab.sum
          omega

end Go.Proofs.Ytagndlcpcggmpaa
