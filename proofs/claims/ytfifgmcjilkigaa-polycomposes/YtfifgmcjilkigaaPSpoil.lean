/- What the law file's spoil leaves. -/
import Derived.Test.YtfifgmcjilkigaaPSpl
namespace Go.Proofs.Ytfifgmcjilkigaa
open Go.RowKit Go.Maps

theorem after_append {b t gp m : Nat} {e e' : TypeId} {w wn w4 wo : World} {o : Obj} (h : Spl b t w wn) (hg : wn.heap[gp]? = wo.heap[gp]?) (h4 : Spl b t (wn.alloc o) w4) (hk : ∀ (gp : Nat) (e' : TypeId) (m : Nat), Shp (wn.alloc o) gp e' m → e' ≠ e → w4.heap[gp]? = (wn.alloc o).heap[gp]?) (hs : Shp w gp e' m) (hne : e' ≠ e) :
    Spl b t w w4 ∧ w4.heap[gp]? = wo.heap[gp]? := by
  have h5 := h.trans (Spl.below (below_alloc o))
  refine ⟨h5.trans h4, ?_⟩
  rw [hk gp e' m (h5.shape _ _ _ hs) hne, (below_alloc o).block gp (h.shape _ _ _ hs).lt]
  exact hg

set_option maxRecDepth 100000 in
set_option maxHeartbeats 6400000 in
theorem pspoil_any (v : Value) (p : List Mn) (b : Nat) (ws w : World) (h : OM ws b v p) (hB : Below ws.heap.size ws w) (hl : ∀ m ∈ p, m.1.length ≤ 64 ∧ m.2.length ≤ 512) (_hp : p.length ≤ 256) :
    Calls Try.prog 20 #[v] w fun e w' => e = .returned (.tuple #[]) ∧ Spl b ws.heap.size w w' := by
  obtain ⟨i0, hi, hz0, hz1, hz2⟩ := info_parts info_u32c
  obtain ⟨i1, hi1, hy0, hy1, hy2⟩ := info_parts info_int
  obtain ⟨cs, hcl, hcc, ho⟩ := h
  rcases ho.2 with ⟨rfl, hn⟩ | ⟨gp, cap, cur, rfl, hgb, hg, hcap, hm, hs, ht⟩
  · clear hcl hcc ho hl _hp
    go_enter Try.func20, Try.ntmps20
    go_wp2
    refine wp_loop_rounds 1 ?_
    rw [rounds_succ]
    go_wp2
    go_end0
    exact ⟨rfl, Spl.refl _ _ _⟩
  · have hlt := (Array.getElem?_eq_some_iff.1 hg).1
    have hgw : w.heap[gp]? = some (.cells cur 46 (0, 0)) := by rw [hB.block gp hlt]; exact hg
    unfold maxLen at hm
    have HRow : Hid (∀ (i : Nat) (c : Value × Value), cs[i]? = some c → ∃ n1 n2, n1 ≤ 64 ∧ n2 ≤ 512 ∧ RowS w b ws.heap.size 43 c.1 n1 ∧ RowS w b ws.heap.size 3 c.2 n2) := by
      intro i c hi
      have hlt2 := (List.getElem?_eq_some_iff.1 hi).1
      have hpi : p[i]? = some p[i] := List.getElem?_eq_getElem (by omega)
      obtain ⟨o1, o2⟩ := hcc i c _ hi hpi
      exact ⟨_, _, (hl _ (List.mem_of_getElem? hpi)).1, (hl _ (List.mem_of_getElem? hpi)).2, RowS.of o1.2 hB, RowS.of o2.2 hB⟩
    have HCells : Hid (∀ (i : Nat) (c : Value × Value), cs[i]? = some c → w.cell? ⟨gp, i * 2, none⟩ = some c.1 ∧ w.cell? ⟨gp, i * 2 + 1, none⟩ = some c.2) := by
      intro i c hi
      have hlt2 := (List.getElem?_eq_some_iff.1 hi).1
      obtain ⟨f1, f2⟩ := flat2_get hi
      have hfl := ho.1
      have g1 := (List.getElem?_eq_some_iff.1 f1).1
      have g2 := (List.getElem?_eq_some_iff.1 f2).1
      have hwo := ownsRow_later ho hB
      rw [World.ownsRow.cellAt hwo (i * 2) (by omega), World.ownsRow.cellAt hwo (i * 2 + 1) (by omega)]
      rw [f1, f2]
      exact ⟨rfl, rfl⟩
    have HShp : Hid (Shp w gp 46 (cap * 2)) := ⟨cur, hgw, by omega⟩
    have HCl : Hid (cs.length = p.length) := hcl
    clear hcc ho hl hgw hg hs ht hcl cur hB
    obtain ⟨t, ht⟩ : ∃ X, X = ws.heap.size := ⟨_, rfl⟩
    rw [← ht] at HRow hlt ⊢
    clear ht
    go_enter Try.func20, Try.ntmps20
    go_wp2
    go_loopw [2] (fun i wr => ∃ k : Nat, k ≤ p.length ∧ i = .int .i64 k ∧ Spl b t w wr ∧ ∀ (j : Nat) (c : Value × Value), k ≤ j → cs[j]? = some c → wr.cell? ⟨gp, j * 2, none⟩ = some c.1 ∧ wr.cell? ⟨gp, j * 2 + 1, none⟩ = some c.2) (fun i _ => p.length - (intOf i).toNat)
    case atStart => exact ⟨0, Nat.zero_le _, rfl, Spl.refl _ _ _, fun j c _ hj => HCells.out j c hj⟩
    case round =>
      obtain ⟨k, hk, rfl, hsp, hcs⟩ := hrel
      have HSp : Hid (Spl b t w wr) := hsp
      have HCs : Hid (∀ (j : Nat) (c : Value × Value), k ≤ j → cs[j]? = some c → wr.cell? ⟨gp, j * 2, none⟩ = some c.1 ∧ wr.cell? ⟨gp, j * 2 + 1, none⟩ = some c.2) := hcs
      clear hsp hcs
      by_cases hkl : k < p.length
      · obtain ⟨⟨x1, x2⟩, hx⟩ : ∃ c, cs[k]? = some c := ⟨cs[k]'(by rw [HCl.out]; exact hkl), List.getElem?_eq_getElem _⟩
        obtain ⟨n1, n2, hn1, hn2, hr1, hr2⟩ := HRow.out k _ hx
        simp only at hr1 hr2
        obtain ⟨ao1, cap1, rfl, hc1, hm1⟩ := hr1.form
        obtain ⟨ao2, cap2, rfl, hc2, hm2⟩ := hr2.form
        unfold maxLen at hm1 hm2
        obtain ⟨y1, y2⟩ := HCs.out k _ (Nat.le_refl _) hx
        simp only at y1 y2
        have HR1 : Hid (RowS w b t 43 (.slice ao1 n1 cap1) n1) := hr1
        have HR2 : Hid (RowS w b t 3 (.slice ao2 n2 cap2) n2) := hr2
        have HX : Hid (cs[k]? = some (.slice ao1 n1 cap1, .slice ao2 n2 cap2)) := hx
        clear hr1 hr2 hx
        obtain ⟨wo, hwo⟩ : ∃ X, X = wr := ⟨wr, rfl⟩
        rw [← hwo] at HSp HCs y1 y2 ⊢
        clear hwo
        go_wp2
        go_loopw [3] (fun j wx => ∃ l : Nat, l ≤ n1 ∧ j = .int .i64 l ∧ Spl b t w wx ∧ wx.heap[gp]? = wo.heap[gp]?) (fun j _ => n1 - (intOf j).toNat)
        case atStart => exact ⟨0, Nat.zero_le _, rfl, HSp.out, rfl⟩
        case round =>
          obtain ⟨l, hl, rfl, hspx, hgx⟩ := hrel
          have HSx : Hid (Spl b t w wr) := hspx
          have HGx : Hid (wr.heap[gp]? = wo.heap[gp]?) := hgx
          have z1 : wr.cell? ⟨gp, k * 2, none⟩ = some (.slice ao1 n1 cap1) := by rw [World.cell?_of_block hgx]; exact y1
          have z2 : wr.cell? ⟨gp, k * 2 + 1, none⟩ = some (.slice ao2 n2 cap2) := by rw [World.cell?_of_block hgx]; exact y2
          by_cases hln : l < n1
          · obtain ⟨g1, rfl, hg1, hg2, hsh⟩ := (HR1.out.spl hspx).at hln
            obtain ⟨⟨u1, hu1⟩, hf1⟩ := hsh.cell (Nat.lt_of_lt_of_le hln hc1)
            have hne : gp ≠ g1 := (hspx.shape _ _ _ HShp.out).ne hsh (by decide)
            clear hspx hgx hsh
            go_wp2
            go_roundw
            case rel => exact ⟨l + 1, by omega, by go_num, HSx.out.setCell (.inl ⟨hg1, hg2⟩) _ _, by rw [heap_setCell_other _ _ _ _ hne]; exact HGx.out⟩
            case measure => simp [intOf]; omega
          · clear hspx hgx
            obtain ⟨wm, hwm⟩ : ∃ X, X = wr := ⟨wr, rfl⟩
            rw [← hwm] at HSx HGx z1 z2 ⊢
            clear hwm
            go_wp2
            go_loopw [4] (fun j wx => ∃ l : Nat, l ≤ n2 ∧ j = .int .i64 l ∧ Spl b t w wx ∧ wx.heap[gp]? = wo.heap[gp]?) (fun j _ => n2 - (intOf j).toNat)
            case atStart => exact ⟨0, Nat.zero_le _, rfl, HSx.out, HGx.out⟩
            case round =>
              clear z1 z2 HSx HGx
              obtain ⟨l, hl, rfl, hspx, hgx⟩ := hrel
              have HSx : Hid (Spl b t w wr) := hspx
              have HGx : Hid (wr.heap[gp]? = wo.heap[gp]?) := hgx
              have z1 : wr.cell? ⟨gp, k * 2, none⟩ = some (.slice ao1 n1 cap1) := by rw [World.cell?_of_block hgx]; exact y1
              have z2 : wr.cell? ⟨gp, k * 2 + 1, none⟩ = some (.slice ao2 n2 cap2) := by rw [World.cell?_of_block hgx]; exact y2
              by_cases hln2 : l < n2
              · obtain ⟨g1, rfl, hg1, hg2, hsh⟩ := (HR2.out.spl hspx).at hln2
                obtain ⟨⟨u1, hu1⟩, hf1⟩ := hsh.cell (Nat.lt_of_lt_of_le hln2 hc2)
                have hne : gp ≠ g1 := (hspx.shape _ _ _ HShp.out).ne hsh (by decide)
                clear hspx hgx hsh
                go_wp2
                go_roundw
                case rel => exact ⟨l + 1, by omega, by go_num, HSx.out.setCell (.inl ⟨hg1, hg2⟩) _ _, by rw [heap_setCell_other _ _ _ _ hne]; exact HGx.out⟩
                case measure => simp [intOf]; omega
              · clear hspx hgx
                obtain ⟨wn, hwn⟩ : ∃ X, X = wr := ⟨wr, rfl⟩
                rw [← hwn] at HSx HGx z1 z2 ⊢
                clear hwn
                go_wp2_with (first
                  | (at_builtin; obtain ⟨g4, cap4, w4, hr4, hsh4, hc4, hm4, hg4, hsp4, hk4⟩ := append_spl 36 36 43 i0 _ 4 under_u32s hi hz0 hz1 hz2 rfl (HR1.out.spl (HSx.out.trans (Spl.below (below_alloc (.cells #[.int .u32 8] 43))))) (ad := ⟨wn.heap.size, 0, none⟩) (c := 1) (x := .int .u32 8) (by rw [cell_of_row _ _ _ _ _ _ (heap_alloc_new _ _)]; rfl) rfl (by omega) (by omega); refine wpList_append_run rfl _ _ 36 rfl _ _ rfl rfl hr4 ?_; obtain ⟨hs4, hgp4⟩ := after_append HSx.out HGx.out hsp4 hk4 HShp.out (by decide); have z3 : w4.cell? ⟨gp, k * 2 + 1, none⟩ = some (.slice ao2 n2 cap2) := by { rw [World.cell?_of_block hgp4]; exact y2 }; have HS4 : Hid (Spl b t w w4) := hs4; have HG4 : Hid (w4.heap[gp]? = wo.heap[gp]?) := hgp4; have HH4 : Hid (Shp w4 g4 43 cap4) := hsh4; have hg4' : b ≤ g4 ∧ g4 < t ∨ w.heap.size ≤ g4 := (by { have := HSx.out.size; simp at hg4; omega }); clear hr4 hs4 hgp4 hsp4 hk4 hsh4 hg4)
                  | (at_builtin; obtain ⟨g5, cap5, w5, hr5, hsh5, hc5, hm5, hg5, hsp5, hk5⟩ := append_spl 44 44 3 i1 _ 8 under_ints hi1 hy0 hy1 hy2 rfl (HR2.out.spl (HS4.out.trans (Spl.below (below_alloc (.cells #[.int .i64 8] 3))))) (ad := ⟨w4.heap.size, 0, none⟩) (c := 1) (x := .int .i64 8) (by rw [cell_of_row _ _ _ _ _ _ (heap_alloc_new _ _)]; rfl) rfl (by omega) (by omega); refine wpList_append_run rfl _ _ 44 rfl _ _ rfl rfl hr5 ?_; obtain ⟨hs5, hgp5⟩ := after_append HS4.out HG4.out hsp5 hk5 HShp.out (by decide); have HS5 : Hid (Spl b t w w5) := hs5; have HG5 : Hid (w5.heap[gp]? = wo.heap[gp]?) := hgp5; have HH5 : Hid (Shp w5 g5 3 cap5) := hsh5; have hg5' : b ≤ g5 ∧ g5 < t ∨ w.heap.size ≤ g5 := (by { have := HS4.out.size; simp at hg5; omega }); have hX4 := hsp5.shape _ _ _ ((Spl.below (b := b) (t := t) (below_alloc (.cells #[.int .i64 8] 3))).shape _ _ _ HH4.out); obtain ⟨⟨e1, he1⟩, hf1⟩ := hX4.cell (k := n1) (by omega); obtain ⟨⟨e2, he2⟩, hf2⟩ := (HH5.out.setCell g4 n1 (.int .u32 7)).cell (k := n2) (by omega); have hG6 := ((HS5.out.shape _ _ _ HShp.out).setCell g4 n1 (.int .u32 7)).setCell g5 n2 (.int .i64 7); obtain ⟨⟨q1, hq1⟩, hq2⟩ := hG6.cell (k := k * 2) (by omega); obtain ⟨⟨q3, hq3⟩, hq4⟩ := (hG6.setCell gp (k * 2) (.slice none 0 0)).cell (k := k * 2 + 1) (by omega); have hn4 : gp ≠ g4 := (HS5.out.shape _ _ _ HShp.out).ne hX4 (by decide); have hn5 : gp ≠ g5 := (HS5.out.shape _ _ _ HShp.out).ne HH5.out (by decide); clear hX4 hG6; clear hr5 hs5 hgp5 hsp5 hk5 hsh5 hg5))
                go_roundw
                case rel =>
                  refine ⟨k + 1, by omega, by go_num, ((((HS5.out.setCell hg4' _ _).setCell hg5' _ _).setCell (.inl ⟨hgb, hlt⟩) _ _).setCell (.inl ⟨hgb, hlt⟩) _ _), fun j c hj hc => ?_⟩
                  obtain ⟨r1, r2⟩ := HCs.out j c (by omega) hc
                  have hcell : ∀ o : Nat, k * 2 + 1 < o → ((((w5.setCell ⟨g4, n1, none⟩ (.int .u32 7)).setCell ⟨g5, n2, none⟩ (.int .i64 7)).setCell ⟨gp, k * 2, none⟩ (.slice none 0 0)).setCell ⟨gp, k * 2 + 1, none⟩ (.slice none 0 0)).cell? ⟨gp, o, none⟩ = wo.cell? ⟨gp, o, none⟩ := fun o ho => by
                    rw [World.cell?_setCell_other _ _ _ _ (by simp <;> omega), World.cell?_setCell_other _ _ _ _ (by simp <;> omega), World.cell?_setCell_far _ _ _ _ (show g5 ≠ gp from fun e => hn5 e.symm), World.cell?_setCell_far _ _ _ _ (show g4 ≠ gp from fun e => hn4 e.symm)]
                    exact World.cell?_of_block HG5.out
                  rw [hcell _ (by omega), hcell _ (by omega)]
                  exact ⟨r1, r2⟩
                case measure => simp [intOf]; omega
      · clear HCs
        go_wp2
        go_end0
        exact ⟨rfl, HSp.out⟩

end Go.Proofs.Ytfifgmcjilkigaa
