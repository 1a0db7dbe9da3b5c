/- What the document's times answers. -/
import Derived.Test.YtdjmjhlbjcgoiaaGreatDoorOwn13
import Derived.Test.YtdjmjhlbjcgoiaaGreatDoorOwn10
import Derived.Deep.DeepAppendRoom
namespace Go.Proofs.YtdjmjhlbjcgoiaaGreatDoor
open Go.RowKit Go.Maps

theorem box222 {w w1 : World} {a b c d e f : Value} {t t' t'' : TypeId} (hb : Below (((w.alloc (.cells #[a, b] t)).alloc (.cells #[c, d] t')).alloc (.cells #[e, f] t'')).heap.size (((w.alloc (.cells #[a, b] t)).alloc (.cells #[c, d] t')).alloc (.cells #[e, f] t'')) w1) :
    w1.cell? ⟨w.heap.size, 0, none⟩ = some a ∧ w1.cell? ⟨w.heap.size, 1, none⟩ = some b ∧ w1.cell? ⟨w.heap.size + 1, 0, none⟩ = some c ∧ w1.cell? ⟨w.heap.size + 1, 1, none⟩ = some d ∧ Shp w1 (w.heap.size + 1 + 1) t'' 2 ∧ w.heap.size + 3 ≤ w1.heap.size ∧ Below w.heap.size w w1 := by
  have hs := hb.size
  simp at hs
  have hA := below_step (below_alloc (w := w.alloc (.cells #[a, b] t)) (.cells #[c, d] t')) (below_step (below_alloc (.cells #[e, f] t'')) hb)
  have hB := below_step (below_alloc (w := (w.alloc (.cells #[a, b] t)).alloc (.cells #[c, d] t')) (.cells #[e, f] t'')) hb
  have n1 : (w.alloc (.cells #[a, b] t)).heap.size = w.heap.size + 1 := by simp
  have n2 : ((w.alloc (.cells #[a, b] t)).alloc (.cells #[c, d] t')).heap.size = w.heap.size + 1 + 1 := by simp
  refine ⟨(Kp.of_below hA).cell _ _ ?_, (Kp.of_below hA).cell _ _ ?_, (Kp.of_below hB).cell _ _ ?_, (Kp.of_below hB).cell _ _ ?_, ?_, by omega, below_step (below_alloc _) hA⟩
  · rw [cell_of_row _ _ _ _ _ _ (heap_alloc_new _ _)]; rfl
  · rw [cell_of_row _ _ _ _ _ _ (heap_alloc_new _ _)]; rfl
  · rw [← n1, cell_of_row _ _ _ _ _ _ (heap_alloc_new _ _)]; rfl
  · rw [← n1, cell_of_row _ _ _ _ _ _ (heap_alloc_new _ _)]; rfl
  · refine ⟨#[e, f], ?_, rfl⟩
    rw [hb.block _ (by simp), ← n2]
    exact heap_alloc_new _ _

/-- The exponents' row grown by one, behind the new element's block. -/
theorem times_after {w1 W0 W9 : World} {xo : Option Addr} {k xc : Nat} {Z : List Int} {z : Int} {c0 v3 : Value} {o : Obj} (hS : Below w1.heap.size w1 W0) (hox : W0.ownsRow w1.heap.size 3 1 (.slice xo k xc) k (Z.map I64)) (hsm : Shp W0 w1.heap.size 37 2) (hZ : ZI Z) (hz : -9223372036854775808 ≤ z ∧ z ≤ 9223372036854775807)
    (y0 : W0.cell? ⟨w1.heap.size, 0, none⟩ = some c0) (hown : W9.ownsRow w1.heap.size 3 1 v3 (k + 1) (Z.map I64 ++ [.int .i64 z])) (hgr : (W0.alloc o).grownBy W9 (Value.slice xo k xc).ownBlock) :
    Below w1.heap.size w1 W9 ∧ Hid (Shp W9 w1.heap.size 37 2) ∧ W9.cell? ⟨w1.heap.size, 0, none⟩ = some c0 ∧ ∀ u, OwI (W9.setCell ⟨w1.heap.size, 1, none⟩ u) w1.heap.size v3 (Z ++ [z]) := by
  have hox2 := ownsRow_later hox (below_alloc o)
  have hb9 : Below w1.heap.size w1 W9 := (below_step hS (below_alloc o)).grown hgr (below_step hS (below_alloc o)).size (fun j hj => own_blk hox2 hj)
  have hsm2 : Shp (W0.alloc o) w1.heap.size 37 2 := (Spl.below (b := 0) (t := 0) (below_alloc o)).shape _ _ _ hsm
  have hne : some w1.heap.size ≠ (Value.slice xo k xc).ownBlock := fun e => by
    rcases hox2.2 with ⟨hv, _⟩ | ⟨g, cap, cur, hv, hb, hg, _⟩
    · rw [hv] at e
      cases e
    · rw [hv] at e
      simp only [Value.ownBlock, Option.some.injEq] at e
      subst e
      obtain ⟨cur2, hg2, _⟩ := hsm2
      rw [hg] at hg2
      simp only [Option.some.injEq, Obj.cells.injEq] at hg2
      exact absurd hg2.2.1 (by decide)
  have hblk : W9.heap[w1.heap.size]? = W0.heap[w1.heap.size]? := by
    rw [hgr.block _ hsm2.lt hne, (below_alloc o).block _ hsm.lt]
  have hsm9 : Shp W9 w1.heap.size 37 2 := by
    obtain ⟨cur, hc, hn⟩ := hsm
    exact ⟨cur, by rw [hblk]; exact hc, hn⟩
  refine ⟨hb9, hsm9, by rw [World.cell?_of_block hblk]; exact y0, fun u => ?_⟩
  have hlen : Z.length = k := by have := hox.1; rw [List.length_map, Nat.mul_one] at this; exact this
  have howi : OwI W9 w1.heap.size v3 (Z ++ [z]) := by
    refine ⟨fun j x hj => ?_, ?_⟩
    · by_cases hjl : j < Z.length
      · rw [List.getElem?_append_left hjl] at hj
        exact hZ j x hj
      · rw [List.getElem?_append_right (by omega)] at hj
        have : j - Z.length = 0 := by
          have := (List.getElem?_eq_some_iff.1 hj).1
          simp at this
          omega
        rw [this] at hj
        simp at hj
        subst hj
        exact hz
    · rw [List.length_append, List.length_singleton, hlen, List.map_append]
      exact hown
  refine howi.kept (row := some w1.heap.size) ⟨rfl, rfl, rfl, by simp [World.setCell], fun j _ hj => heap_setCell_other _ _ _ _ (fun e => hj (by rw [e]))⟩ ?_
  rcases hown.2 with ⟨hv, _⟩ | ⟨g, cap, cur, hv, hb, hg, _⟩
  · rw [hv]
    exact .inl rfl
  · rw [hv]
    refine .inr (fun e => ?_)
    simp only [Value.ownBlock, Option.some.injEq] at e
    subst e
    obtain ⟨cur2, hg2, _⟩ := hsm9
    rw [hg] at hg2
    simp only [Option.some.injEq, Obj.cells.injEq] at hg2
    exact absurd hg2.2.1 (by decide)

theorem times_rel {w1 W9 : World} {a2 b2 : List Int} {k b0 cc : Nat} {co : Option Addr} {v3 z1 : Value} (hb9 : Below w1.heap.size w1 W9) (hsm : Shp W9 w1.heap.size 37 2) (z0 : W9.cell? ⟨w1.heap.size, 0, none⟩ = some (.slice co b0 cc)) (hz1 : W9.cell? ⟨w1.heap.size, 1, none⟩ = some z1)
    (hOx : OwI (W9.setCell ⟨w1.heap.size, 1, none⟩ v3) w1.heap.size v3 (addXk a2 b2 k ++ [expI a2 k + expI b2 k])) :
    Hid ((W9.setCell ⟨w1.heap.size, 1, none⟩ v3).cell? ⟨w1.heap.size, 0, none⟩ = some (.slice co b0 cc) ∧ (W9.setCell ⟨w1.heap.size, 1, none⟩ v3).cell? ⟨w1.heap.size, 1, none⟩ = some v3 ∧ Shp (W9.setCell ⟨w1.heap.size, 1, none⟩ v3) w1.heap.size 37 2 ∧
      OwI (W9.setCell ⟨w1.heap.size, 1, none⟩ v3) w1.heap.size v3 (addXk a2 b2 (k + 1)) ∧ Below w1.heap.size w1 (W9.setCell ⟨w1.heap.size, 1, none⟩ v3)) := by
  refine ⟨by rw [World.cell?_setCell_other _ _ _ _ (by simp)]; exact z0, World.cell?_setCell_same _ _ _ hz1, hsm.setCell _ _ _, by rw [addXk_succ]; exact hOx, hb9.setCell (p := ⟨w1.heap.size, 1, none⟩) (Nat.le_refl _) _⟩

theorem results_cell {P : Program} {fn : Func} {w : World} {tmps : Array Value} {t u : Tmp} {ty : TypeId} {ad : Addr} {v : Value} (h : fn.results = #[.cell t ty, .tmp u]) (ht : tmps.getD t undef = .pointer (some ad)) (hl : (loadVar ty ad).run P w = .ok v w) : (results fn tmps).run P w = .ok (.tuple #[v, tmps.getD u undef]) w := by
  have ht2 : tmps[t]?.getD undef = .pointer (some ad) := by simpa using ht
  simp [results, h, ht2, hl, asAddr]

/-- The worlds while the answer is laid: the monomial's two rows stand in block gm, the answer's block gr is there, and all else is as it was. -/
structure TmS (wr : World) (gm gr : Nat) (c x : Value) (w' : World) : Prop where
  grown : wr.grownBy w' (some gr)
  cell0 : w'.cell? ⟨gm, 0, none⟩ = some c
  cell1 : w'.cell? ⟨gm, 1, none⟩ = some x
  mon : Shp w' gm 37 2
  res : Shp w' gr 37 2
  ne : gm ≠ gr

theorem TmS.drew {wr : World} {gm gr : Nat} {c x : Value} (hm : Shp wr gm 37 2) (hr : Shp wr gr 37 2 ∧ gm ≠ gr) (y0 : wr.cell? ⟨gm, 0, none⟩ = some c) (y1 : wr.cell? ⟨gm, 1, none⟩ = some x) : TmS wr gm gr c x wr.drew :=
  ⟨⟨rfl, rfl, rfl, Nat.le_refl _, fun _ _ _ => rfl⟩, y0, y1, hm, hr.1, hr.2⟩

theorem TmS.below {wr w w' : World} {gm gr : Nat} {c x : Value} (h : TmS wr gm gr c x w) (hb : Below w.heap.size w w') : TmS wr gm gr c x w' :=
  ⟨⟨hb.os.trans h.grown.os, hb.tape.trans h.grown.tape, hb.output.trans h.grown.output, Nat.le_trans h.grown.size hb.size, fun k hk hne => (hb.block k (Nat.lt_of_lt_of_le hk h.grown.size)).trans (h.grown.block k hk hne)⟩,
    (Kp.of_below hb).cell _ _ h.cell0, (Kp.of_below hb).cell _ _ h.cell1, (Spl.below (b := 0) (t := 0) hb).shape _ _ _ h.mon, (Spl.below (b := 0) (t := 0) hb).shape _ _ _ h.res, h.ne⟩

theorem TmS.stored {wr w : World} {gm gr : Nat} {c x u0 u1 q0 q2 : Value} (h : TmS wr gm gr c x w) (_h0 : w.cell? ⟨gr, 0, none⟩ = some q0) (_h1 : (w.setCell ⟨gr, 0, none⟩ u0).cell? ⟨gr, 1, none⟩ = some q2) : TmS wr gm gr c x ((w.setCell ⟨gr, 0, none⟩ u0).setCell ⟨gr, 1, none⟩ u1) := by
  have hne : gr ≠ gm := fun e => h.ne e.symm
  refine ⟨⟨h.grown.os, h.grown.tape, h.grown.output, by simpa [World.setCell] using h.grown.size, fun k hk hkn => ?_⟩, ?_, ?_, (h.mon.setCell _ _ _).setCell _ _ _, (h.res.setCell _ _ _).setCell _ _ _, h.ne⟩
  · have hk2 : k ≠ gr := fun e => hkn (by rw [e])
    rw [heap_setCell_other _ _ _ _ hk2, heap_setCell_other _ _ _ _ hk2]
    exact h.grown.block k hk hkn
  · rw [World.cell?_setCell_far _ _ _ _ hne, World.cell?_setCell_far _ _ _ _ hne]
    exact h.cell0
  · rw [World.cell?_setCell_far _ _ _ _ hne, World.cell?_setCell_far _ _ _ _ hne]
    exact h.cell1

theorem TmS.fin {w wr W1 : World} {bs bo gm gr : Nat} {c x q0 q2 : Value} {cs : List Nat} {xs : List Int} (hbw : Below bs w wr) (hb1 : Below wr.heap.size wr W1) (hc : Ow wr bs c cs) (hx : OwI wr bo x xs) (hS : TmS wr gm gr c x W1) (_hS1 : TmS wr gm gr c x ((W1.setCell ⟨gr, 0, none⟩ c).setCell ⟨gr, 1, none⟩ x))
    (h0 : W1.cell? ⟨gr, 0, none⟩ = some q0) (h1 : (W1.setCell ⟨gr, 0, none⟩ c).cell? ⟨gr, 1, none⟩ = some q2) (hbo : bs ≤ bo) (hgr : bs ≤ gr ∧ bs ≤ wr.heap.size) :
    Hid ((((W1.setCell ⟨gr, 0, none⟩ c).setCell ⟨gr, 1, none⟩ x).cell? ⟨gr, 0, none⟩ = some c ∧ ((W1.setCell ⟨gr, 0, none⟩ c).setCell ⟨gr, 1, none⟩ x).cell? ⟨gr, 1, none⟩ = some x) ∧
      Ow ((W1.setCell ⟨gr, 0, none⟩ c).setCell ⟨gr, 1, none⟩ x) bs c cs ∧ OwI ((W1.setCell ⟨gr, 0, none⟩ c).setCell ⟨gr, 1, none⟩ x) bs x xs ∧ Below bs w ((W1.setCell ⟨gr, 0, none⟩ c).setCell ⟨gr, 1, none⟩ x)) := by
  have hg : W1.grownBy ((W1.setCell ⟨gr, 0, none⟩ c).setCell ⟨gr, 1, none⟩ x) (some gr) := ⟨rfl, rfl, rfl, by simp [World.setCell], fun k _ hk => by
    have hk2 : k ≠ gr := fun e => hk (by rw [e])
    rw [heap_setCell_other _ _ _ _ hk2, heap_setCell_other _ _ _ _ hk2]⟩
  have hc1 := hc.since hb1
  have hx1 := hx.later hb1
  refine ⟨⟨?_, World.cell?_setCell_same _ _ _ h1⟩, hc1.held hg (own_far hc1.2 hS.res (by decide)), (hx1.mono hbo).kept hg (own_far hx1.2 hS.res (by decide)), ?_⟩
  · rw [World.cell?_setCell_other _ _ _ _ (by simp)]
    exact World.cell?_setCell_same _ _ _ h0
  · exact ((hbw.trans (hb1.mono hgr.2)).setCell (p := ⟨gr, 0, none⟩) hgr.1 _).setCell (p := ⟨gr, 1, none⟩) hgr.1 _

set_option maxRecDepth 100000 in
set_option maxHeartbeats 40000000 in
theorem refTimes_any (av1 av2 bv1 bv2 : Value) (a b : Mn) (w : World) (ha : Mo w av1 av2 a) (hb : Mo w bv1 bv2 b) (sa : Small a.2) (sb : Small b.2) :
    Calls Tryz.prog 177 #[.agg #[av1, av2], .agg #[bv1, bv2]] w fun e w' => ∃ cv ev, e = .returned (.tuple #[.agg #[cv, ev], .bool (timesB a b)]) ∧ Ow w' w.heap.size cv (mulL a.1 b.1) ∧ OwI w' w.heap.size ev (addX a.2 b.2) ∧ Below w.heap.size w w' := by
  obtain ⟨i1, hi1, hy0, hy1, hy2⟩ := info_parts info_int
  obtain ⟨ao1, ac1, rfl, hac1, hac2, _⟩ := ha.1.flat
  obtain ⟨ao2, ac2, rfl, hac3, hac4, _⟩ := Row.flat ha.2
  obtain ⟨bo1, bc1, rfl, hbc1, hbc2, _⟩ := hb.1.flat
  obtain ⟨bo2, bc2, rfl, hbc3, hbc4, _⟩ := Row.flat hb.2
  unfold maxLen at hac2 hac4 hbc2 hbc4
  have HMa : Hid (Mo w (.slice ao1 a.1.length ac1) (.slice ao2 a.2.length ac2) a) := ha
  have HMb : Hid (Mo w (.slice bo1 b.1.length bc1) (.slice bo2 b.2.length bc2) b) := hb
  have HSa : Hid (Small a.2) := sa
  have HSb : Hid (Small b.2) := sb
  have hla : a.2.length ≤ 512 := sa.1
  have hlb : b.2.length ≤ 512 := sb.1
  clear ha hb sa sb
  go_enter Tryz.func177, Tryz.ntmps177
  go_wp2_with fail
  refine (refMul_any _ _ a.1 b.1 _ (HMa.out.1.kp (Kp.of_below (below_step (below_alloc _) (below_step (below_alloc _) (below_alloc _))))) (HMb.out.1.kp (Kp.of_below (below_step (below_alloc _) (below_step (below_alloc _) (below_alloc _)))))).mono ?_
  rintro e w1 ⟨cv, rfl, hcv, hb1⟩
  obtain ⟨C, hC⟩ : ∃ C, C = mulL a.1 b.1 := ⟨_, rfl⟩
  obtain ⟨E, hE⟩ : ∃ E, E = mulE a.1 b.1 := ⟨_, rfl⟩
  have HC : Hid (C = mulL a.1 b.1) := hC
  have HE : Hid (E = mulE a.1 b.1) := hE
  rw [← hC] at hcv
  rw [← hE]
  clear hC hE
  have hcv2 := hcv.mono (b' := w.heap.size) (by simp; omega)
  obtain ⟨x1, x2, x3, x4, hsh, hsz1, hbw⟩ := box222 hb1
  obtain ⟨co, cc, rfl, hcc1, hcc2, _⟩ := hcv.sl.flat
  unfold maxLen at hcc2
  have HCv : Hid (Ow w1 w.heap.size (.slice co C.length cc) (C)) := hcv2
  have HB1 : Hid (Below w.heap.size w w1) := hbw
  have HSh : Hid (Shp w1 (w.heap.size + 1 + 1) 37 2) := hsh
  clear hb1 hcv hcv2 hbw hsh
  obtain ⟨M, hM⟩ : ∃ M, M = max a.2.length b.2.length := ⟨_, rfl⟩
  have HM : Hid (M = max a.2.length b.2.length) := hM
  have hM5 : M ≤ 512 := by omega
  have hMa : a.2.length ≤ M := by omega
  have hMb : b.2.length ≤ M := by omega
  clear hM
  go_wp2
  go_loopw [9] (fun i wr => ∃ (k : Nat) (X : Value), k ≤ M ∧ i = .int .i64 k ∧ wr.cell? ⟨w1.heap.size, 0, none⟩ = some (.slice co C.length cc) ∧ wr.cell? ⟨w1.heap.size, 1, none⟩ = some X ∧ Shp wr w1.heap.size 37 2 ∧ OwI wr w1.heap.size X (addXk a.2 b.2 k) ∧ Below w1.heap.size w1 wr) (fun i _ => M - (intOf i).toNat)
  case atStart =>
    refine ⟨0, .slice none 0 0, Nat.zero_le _, rfl, ?_, ?_, ⟨_, heap_alloc_new _ _, rfl⟩, ⟨fun k x hk => (by simp [addXk] at hk), World.ownsRow_nil _ _ _ _⟩, below_alloc _⟩
    · rw [cell_of_row _ _ _ _ _ _ (heap_alloc_new _ _)]; rfl
    · rw [cell_of_row _ _ _ _ _ _ (heap_alloc_new _ _)]; rfl
  case round =>
    obtain ⟨k, X, hk, rfl, y0, y1, hsm, hox, hbl⟩ := hrel
    obtain ⟨xo, xc, rfl, hxc1, hxc2⟩ := hox.shape
    unfold maxLen at hxc2
    rw [addXk_len] at y1 hox hxc1
    have HSm : Hid (Shp wr w1.heap.size 37 2) := hsm
    have HZ : Hid (ZI (addXk a.2 b.2 k)) := hox.1
    have HOx : Hid (wr.ownsRow w1.heap.size 3 1 (.slice xo k xc) k ((addXk a.2 b.2 k).map I64)) := by
      have := hox.2
      rw [addXk_len] at this
      exact this
    have HB : Hid (Below w1.heap.size w1 wr) := hbl
    have hx1 := (Kp.of_below hbl).cell _ _ x1
    have hx2 := (Kp.of_below hbl).cell _ _ x2
    have hx3 := (Kp.of_below hbl).cell _ _ x3
    have hx4 := (Kp.of_below hbl).cell _ _ x4
    clear hsm hox
    by_cases hlt : k < M
    · obtain ⟨s1, s2⟩ := expI_small HSa.out k
      obtain ⟨s3, s4⟩ := expI_small HSb.out k
      have hw : IntKind.i64.wrap (expI a.2 k + expI b.2 k) = expI a.2 k + expI b.2 k := IntWalk.i64_in _ ⟨by omega, by omega⟩
      by_cases hka : k < a.2.length
      · go_wp2_with fail
        have hS : Below w1.heap.size w1 wr.drew := HB.out.drew
        refine wp_region_held_drew (S := fun w' => Below w1.heap.size w1 w') (by kernel_rfl) hS (fun _ => ?_)
        have HOx0 : Hid (wr.drew.ownsRow w1.heap.size 3 1 (.slice xo k xc) k ((addXk a.2 b.2 k).map I64)) := ownsRow_later HOx.out (Below.refl _ _).drew
        have HSm0 : Hid (Shp wr.drew w1.heap.size 37 2) := HSm.out
        have y00 : wr.drew.cell? ⟨w1.heap.size, 0, none⟩ = some (.slice co C.length cc) := y0
        have y11 : wr.drew.cell? ⟨w1.heap.size, 1, none⟩ = some (.slice xo k xc) := y1
        obtain ⟨W0, hW0⟩ : ∃ X, X = wr.drew := ⟨_, rfl⟩
        rw [← hW0] at hS HOx0 HSm0 y00 y11 ⊢
        clear hW0 HOx HSm HB hbl y0 y1 hx1 hx2 hx3 hx4
        refine wpAnyH_take (i := 0) (v := .pointer (some ⟨w1.heap.size, 1, none⟩)) rfl (by kernel_rfl) (by kernel_rfl) (by kernel_rfl) (fun _ _ _ h => h) (Or.inl ⟨by rfl, fun w' _ => by go_simp⟩) hS ?_
        simp only [Act.put, List.setIfInBounds_toArray]
        refine wpAnyH_take (i := 2) (v := .pointer (some ⟨w.heap.size, 1, none⟩)) rfl (by kernel_rfl) (by kernel_rfl) (by kernel_rfl) (fun _ _ _ h => h) (Or.inl ⟨by rfl, fun w' _ => by go_simp⟩) hS ?_
        simp only [Act.put]
        refine wpAnyH_take (i := 3) (v := .slice ao2 a.2.length ac2) rfl (by kernel_rfl) (by kernel_rfl) (by kernel_rfl) (fun _ _ _ h => h) (Or.inl ⟨by rfl, fun w' h => by have hh := (Kp.of_below h).cell _ _ x2; go_simp⟩) hS ?_
        simp only [Act.put]
        refine wpAnyH_take (i := 4) (v := .int .i64 (k : Int)) rfl (by kernel_rfl) (by kernel_rfl) (by kernel_rfl) (fun _ _ _ h => h) (Or.inl ⟨by rfl, fun w' _ => by go_simp⟩) hS ?_
        simp only [Act.put]
        refine wpAnyH_take (i := 6) (v := .pointer (some ⟨w.heap.size + 1, 1, none⟩)) rfl (by kernel_rfl) (by kernel_rfl) (by kernel_rfl) (fun _ _ _ h => h) (Or.inl ⟨by rfl, fun w' _ => by go_simp⟩) hS ?_
        simp only [Act.put]
        refine wpAnyH_take (i := 7) (v := .slice bo2 b.2.length bc2) rfl (by kernel_rfl) (by kernel_rfl) (by kernel_rfl) (fun _ _ _ h => h) (Or.inl ⟨by rfl, fun w' h => by have hh := (Kp.of_below h).cell _ _ x4; go_simp⟩) hS ?_
        simp only [Act.put]
        refine wpAnyH_take (i := 8) (v := .int .i64 (k : Int)) rfl (by kernel_rfl) (by kernel_rfl) (by kernel_rfl) (fun _ _ _ h => h) (Or.inl ⟨by rfl, fun w' _ => by go_simp⟩) hS ?_
        simp only [Act.put]
        refine wpAnyH_ready (rs := [1, 5]) (by kernel_rfl) (by simp) (AllReadyH.cons rfl (fun K hK => ?_) (AllReadyH.cons rfl (fun K hK => ?_) (AllReadyH.nil)))
        · skip
          go_simp
          refine hK.out _ _ hS (fun _ => ?_)
          clear hK K
          refine wpAnyH_ready (rs := [5]) (by kernel_rfl) (by simp) (AllReadyH.cons rfl (fun K hK => ?_) (AllReadyH.nil))
          go_simp
          refine (refExp_any _ a.2 k _ (HMa.out.2.kp ((Kp.of_below HB1.out).trans (Kp.of_below hS))) (by omega)).mono ?_
          rintro e Wx ⟨rfl, hWx⟩
          rw [hWx]
          refine hK.out _ _ hS (fun _ => ?_)
          clear hK K
          refine wpAnyH_ready (rs := [9]) (by kernel_rfl) (by simp) (AllReadyH.cons rfl (fun K hK => ?_) (AllReadyH.nil))
          go_simp
          refine (refExp_any _ b.2 k _ (HMb.out.2.kp ((Kp.of_below HB1.out).trans (Kp.of_below hS))) (by omega)).mono ?_
          rintro e Wx ⟨rfl, hWx⟩
          rw [hWx]
          refine hK.out _ _ hS (fun _ => ?_)
          clear hK K
          refine wpAnyH_take (i := 10) (v := .int .i64 (expI a.2 k + expI b.2 k)) rfl (by kernel_rfl) (by kernel_rfl) (by kernel_rfl) (fun _ _ _ h => h) (Or.inl ⟨by rfl, fun w' _ => by go_simp⟩) hS ?_
          simp only [Act.put, List.setIfInBounds_toArray]
          refine wpAnyH_ready (rs := [11]) (by kernel_rfl) (by simp) (AllReadyH.cons rfl (fun K hK => ?_) (AllReadyH.nil))
          go_simp
          refine hK.out _ _ (below_step hS (below_alloc _)) (fun hS2 => ?_)
          clear hK K
          refine wpAnyH_ready (rs := [12]) (by kernel_rfl) (by simp) (AllReadyH.cons rfl (fun K hK => ?_) (AllReadyH.nil))
          refine step_append_own rfl _ _ 30 rfl w1.heap.size 3 i1 _ 1 8 under_ints hi1 hy0 hy1 hy2 rfl (by decide) (.slice xo k xc) k ((addXk a.2 b.2 k).map I64) rfl (ownsRow_later HOx0.out (below_alloc _)) ⟨W0.heap.size, 0, none⟩ 1 1 [.int .i64 (expI a.2 k + expI b.2 k)] rfl rfl ?_ ?_ (by unfold maxLen; omega) (by omega) (Nat.le_trans hS.size (below_alloc _).size) ?_
          · intro j u hj
            rw [Addr.add_lit, Nat.zero_add, cell_of_row _ _ _ _ _ _ (heap_alloc_new _ _)]
            simpa using hj
          · intro u hu
            simp only [List.mem_cons, List.not_mem_nil, or_false] at hu
            subst hu
            rfl
          intro v3 W9 hown9 hgrow9 _
          obtain ⟨hb9, HS9, z0, hOx⟩ := times_after (z := expI a.2 k + expI b.2 k) hS HOx0.out HSm0.out HZ.out (by omega) y00 hown9 hgrow9
          obtain ⟨g3, c3, rfl⟩ := own_form hown9 (by omega)
          obtain ⟨⟨z1, hz1⟩, hz2⟩ := HS9.out.cell (k := 1) (by omega)
          refine hK.out _ _ hb9 (fun _ => ?_)
          clear hK K
          have hS9 := hb9
          clear hS hS2
          have hS := hS9
          simp only [Act.put, List.setIfInBounds_toArray]
          refine wpAnyH_take (i := 13) (v := .pointer (some ⟨w1.heap.size, 1, none⟩)) rfl (by kernel_rfl) (by kernel_rfl) (by kernel_rfl) (fun _ _ _ h => h) (Or.inl ⟨by rfl, fun w' _ => by go_simp⟩) hS ?_
          simp only [Act.put]
          refine wpAnyH_ready (rs := [14]) (by kernel_rfl) (by simp) (AllReadyH.cons rfl (fun K hK => ?_) (AllReadyH.nil))
          go_simp
          refine hK.out _ _ (hb9.setCell (p := ⟨w1.heap.size, 1, none⟩) (Nat.le_refl _) _) (fun _ => ?_)
          clear hK K
          refine wpAnyH_done (by kernel_rfl) ?_ _
          have HRel := times_rel (b0 := C.length) hb9 HS9.out z0 hz1 (hOx (.slice (some ⟨g3, 0, none⟩) (k + 1) c3))
          clear hOx hown9 hgrow9 hb9 hS9 hS z0 hz1 hz2
          go_wp2
          go_roundw
          case rel => exact ⟨k + 1, _, by omega, by go_num, HRel.out.1, HRel.out.2.1, HRel.out.2.2.1, HRel.out.2.2.2.1, HRel.out.2.2.2.2⟩
          case measure => simp [intOf]; omega
        · skip
          go_simp
          refine (refExp_any _ a.2 k _ (HMa.out.2.kp ((Kp.of_below HB1.out).trans (Kp.of_below hS))) (by omega)).mono ?_
          rintro e Wx ⟨rfl, hWx⟩
          rw [hWx]
          refine hK.out _ _ hS (fun _ => ?_)
          clear hK K
          refine wpAnyH_ready (rs := [1, 9]) (by kernel_rfl) (by simp) (AllReadyH.cons rfl (fun K hK => ?_) (AllReadyH.cons rfl (fun K hK => ?_) (AllReadyH.nil)))
          · skip
            go_simp
            refine hK.out _ _ hS (fun _ => ?_)
            clear hK K
            refine wpAnyH_ready (rs := [9]) (by kernel_rfl) (by simp) (AllReadyH.cons rfl (fun K hK => ?_) (AllReadyH.nil))
            go_simp
            refine (refExp_any _ b.2 k _ (HMb.out.2.kp ((Kp.of_below HB1.out).trans (Kp.of_below hS))) (by omega)).mono ?_
            rintro e Wx ⟨rfl, hWx⟩
            rw [hWx]
            refine hK.out _ _ hS (fun _ => ?_)
            clear hK K
            refine wpAnyH_take (i := 10) (v := .int .i64 (expI a.2 k + expI b.2 k)) rfl (by kernel_rfl) (by kernel_rfl) (by kernel_rfl) (fun _ _ _ h => h) (Or.inl ⟨by rfl, fun w' _ => by go_simp⟩) hS ?_
            simp only [Act.put, List.setIfInBounds_toArray]
            refine wpAnyH_ready (rs := [11]) (by kernel_rfl) (by simp) (AllReadyH.cons rfl (fun K hK => ?_) (AllReadyH.nil))
            go_simp
            refine hK.out _ _ (below_step hS (below_alloc _)) (fun hS2 => ?_)
            clear hK K
            refine wpAnyH_ready (rs := [12]) (by kernel_rfl) (by simp) (AllReadyH.cons rfl (fun K hK => ?_) (AllReadyH.nil))
            refine step_append_own rfl _ _ 30 rfl w1.heap.size 3 i1 _ 1 8 under_ints hi1 hy0 hy1 hy2 rfl (by decide) (.slice xo k xc) k ((addXk a.2 b.2 k).map I64) rfl (ownsRow_later HOx0.out (below_alloc _)) ⟨W0.heap.size, 0, none⟩ 1 1 [.int .i64 (expI a.2 k + expI b.2 k)] rfl rfl ?_ ?_ (by unfold maxLen; omega) (by omega) (Nat.le_trans hS.size (below_alloc _).size) ?_
            · intro j u hj
              rw [Addr.add_lit, Nat.zero_add, cell_of_row _ _ _ _ _ _ (heap_alloc_new _ _)]
              simpa using hj
            · intro u hu
              simp only [List.mem_cons, List.not_mem_nil, or_false] at hu
              subst hu
              rfl
            intro v3 W9 hown9 hgrow9 _
            obtain ⟨hb9, HS9, z0, hOx⟩ := times_after (z := expI a.2 k + expI b.2 k) hS HOx0.out HSm0.out HZ.out (by omega) y00 hown9 hgrow9
            obtain ⟨g3, c3, rfl⟩ := own_form hown9 (by omega)
            obtain ⟨⟨z1, hz1⟩, hz2⟩ := HS9.out.cell (k := 1) (by omega)
            refine hK.out _ _ hb9 (fun _ => ?_)
            clear hK K
            have hS9 := hb9
            clear hS hS2
            have hS := hS9
            simp only [Act.put, List.setIfInBounds_toArray]
            refine wpAnyH_take (i := 13) (v := .pointer (some ⟨w1.heap.size, 1, none⟩)) rfl (by kernel_rfl) (by kernel_rfl) (by kernel_rfl) (fun _ _ _ h => h) (Or.inl ⟨by rfl, fun w' _ => by go_simp⟩) hS ?_
            simp only [Act.put]
            refine wpAnyH_ready (rs := [14]) (by kernel_rfl) (by simp) (AllReadyH.cons rfl (fun K hK => ?_) (AllReadyH.nil))
            go_simp
            refine hK.out _ _ (hb9.setCell (p := ⟨w1.heap.size, 1, none⟩) (Nat.le_refl _) _) (fun _ => ?_)
            clear hK K
            refine wpAnyH_done (by kernel_rfl) ?_ _
            have HRel := times_rel (b0 := C.length) hb9 HS9.out z0 hz1 (hOx (.slice (some ⟨g3, 0, none⟩) (k + 1) c3))
            clear hOx hown9 hgrow9 hb9 hS9 hS z0 hz1 hz2
            go_wp2
            go_roundw
            case rel => exact ⟨k + 1, _, by omega, by go_num, HRel.out.1, HRel.out.2.1, HRel.out.2.2.1, HRel.out.2.2.2.1, HRel.out.2.2.2.2⟩
            case measure => simp [intOf]; omega
          · skip
            go_simp
            refine (refExp_any _ b.2 k _ (HMb.out.2.kp ((Kp.of_below HB1.out).trans (Kp.of_below hS))) (by omega)).mono ?_
            rintro e Wx ⟨rfl, hWx⟩
            rw [hWx]
            refine hK.out _ _ hS (fun _ => ?_)
            clear hK K
            refine wpAnyH_take (i := 10) (v := .int .i64 (expI a.2 k + expI b.2 k)) rfl (by kernel_rfl) (by kernel_rfl) (by kernel_rfl) (fun _ _ _ h => h) (Or.inl ⟨by rfl, fun w' _ => by go_simp⟩) hS ?_
            simp only [Act.put, List.setIfInBounds_toArray]
            refine wpAnyH_ready (rs := [1, 11]) (by kernel_rfl) (by simp) (AllReadyH.cons rfl (fun K hK => ?_) (AllReadyH.cons rfl (fun K hK => ?_) (AllReadyH.nil)))
            · skip
              go_simp
              refine hK.out _ _ hS (fun _ => ?_)
              clear hK K
              refine wpAnyH_ready (rs := [11]) (by kernel_rfl) (by simp) (AllReadyH.cons rfl (fun K hK => ?_) (AllReadyH.nil))
              go_simp
              refine hK.out _ _ (below_step hS (below_alloc _)) (fun hS2 => ?_)
              clear hK K
              refine wpAnyH_ready (rs := [12]) (by kernel_rfl) (by simp) (AllReadyH.cons rfl (fun K hK => ?_) (AllReadyH.nil))
              refine step_append_own rfl _ _ 30 rfl w1.heap.size 3 i1 _ 1 8 under_ints hi1 hy0 hy1 hy2 rfl (by decide) (.slice xo k xc) k ((addXk a.2 b.2 k).map I64) rfl (ownsRow_later HOx0.out (below_alloc _)) ⟨W0.heap.size, 0, none⟩ 1 1 [.int .i64 (expI a.2 k + expI b.2 k)] rfl rfl ?_ ?_ (by unfold maxLen; omega) (by omega) (Nat.le_trans hS.size (below_alloc _).size) ?_
              · intro j u hj
                rw [Addr.add_lit, Nat.zero_add, cell_of_row _ _ _ _ _ _ (heap_alloc_new _ _)]
                simpa using hj
              · intro u hu
                simp only [List.mem_cons, List.not_mem_nil, or_false] at hu
                subst hu
                rfl
              intro v3 W9 hown9 hgrow9 _
              obtain ⟨hb9, HS9, z0, hOx⟩ := times_after (z := expI a.2 k + expI b.2 k) hS HOx0.out HSm0.out HZ.out (by omega) y00 hown9 hgrow9
              obtain ⟨g3, c3, rfl⟩ := own_form hown9 (by omega)
              obtain ⟨⟨z1, hz1⟩, hz2⟩ := HS9.out.cell (k := 1) (by omega)
              refine hK.out _ _ hb9 (fun _ => ?_)
              clear hK K
              have hS9 := hb9
              clear hS hS2
              have hS := hS9
              simp only [Act.put, List.setIfInBounds_toArray]
              refine wpAnyH_take (i := 13) (v := .pointer (some ⟨w1.heap.size, 1, none⟩)) rfl (by kernel_rfl) (by kernel_rfl) (by kernel_rfl) (fun _ _ _ h => h) (Or.inl ⟨by rfl, fun w' _ => by go_simp⟩) hS ?_
              simp only [Act.put]
              refine wpAnyH_ready (rs := [14]) (by kernel_rfl) (by simp) (AllReadyH.cons rfl (fun K hK => ?_) (AllReadyH.nil))
              go_simp
              refine hK.out _ _ (hb9.setCell (p := ⟨w1.heap.size, 1, none⟩) (Nat.le_refl _) _) (fun _ => ?_)
              clear hK K
              refine wpAnyH_done (by kernel_rfl) ?_ _
              have HRel := times_rel (b0 := C.length) hb9 HS9.out z0 hz1 (hOx (.slice (some ⟨g3, 0, none⟩) (k + 1) c3))
              clear hOx hown9 hgrow9 hb9 hS9 hS z0 hz1 hz2
              go_wp2
              go_roundw
              case rel => exact ⟨k + 1, _, by omega, by go_num, HRel.out.1, HRel.out.2.1, HRel.out.2.2.1, HRel.out.2.2.2.1, HRel.out.2.2.2.2⟩
              case measure => simp [intOf]; omega
            · skip
              go_simp
              refine hK.out _ _ (below_step hS (below_alloc _)) (fun hS2 => ?_)
              clear hK K
              have y12 := (Kp.of_below (below_alloc (w := W0) (.cells #[.int .i64 (expI a.2 k + expI b.2 k)] 3))).cell _ _ y11
              refine wpAnyH_ready (rs := [1]) (by kernel_rfl) (by simp) (AllReadyH.cons rfl (fun K hK => ?_) (AllReadyH.nil))
              go_simp
              refine hK.out _ _ hS2 (fun _ => ?_)
              clear hK K
              refine wpAnyH_ready (rs := [12]) (by kernel_rfl) (by simp) (AllReadyH.cons rfl (fun K hK => ?_) (AllReadyH.nil))
              refine step_append_own rfl _ _ 30 rfl w1.heap.size 3 i1 _ 1 8 under_ints hi1 hy0 hy1 hy2 rfl (by decide) (.slice xo k xc) k ((addXk a.2 b.2 k).map I64) rfl (ownsRow_later HOx0.out (below_alloc _)) ⟨W0.heap.size, 0, none⟩ 1 1 [.int .i64 (expI a.2 k + expI b.2 k)] rfl rfl ?_ ?_ (by unfold maxLen; omega) (by omega) (Nat.le_trans hS.size (below_alloc _).size) ?_
              · intro j u hj
                rw [Addr.add_lit, Nat.zero_add, cell_of_row _ _ _ _ _ _ (heap_alloc_new _ _)]
                simpa using hj
              · intro u hu
                simp only [List.mem_cons, List.not_mem_nil, or_false] at hu
                subst hu
                rfl
              intro v3 W9 hown9 hgrow9 _
              obtain ⟨hb9, HS9, z0, hOx⟩ := times_after (z := expI a.2 k + expI b.2 k) hS HOx0.out HSm0.out HZ.out (by omega) y00 hown9 hgrow9
              obtain ⟨g3, c3, rfl⟩ := own_form hown9 (by omega)
              obtain ⟨⟨z1, hz1⟩, hz2⟩ := HS9.out.cell (k := 1) (by omega)
              refine hK.out _ _ hb9 (fun _ => ?_)
              clear hK K
              have hS9 := hb9
              clear hS hS2
              have hS := hS9
              simp only [Act.put, List.setIfInBounds_toArray]
              refine wpAnyH_take (i := 13) (v := .pointer (some ⟨w1.heap.size, 1, none⟩)) rfl (by kernel_rfl) (by kernel_rfl) (by kernel_rfl) (fun _ _ _ h => h) (Or.inl ⟨by rfl, fun w' _ => by go_simp⟩) hS ?_
              simp only [Act.put]
              refine wpAnyH_ready (rs := [14]) (by kernel_rfl) (by simp) (AllReadyH.cons rfl (fun K hK => ?_) (AllReadyH.nil))
              go_simp
              refine hK.out _ _ (hb9.setCell (p := ⟨w1.heap.size, 1, none⟩) (Nat.le_refl _) _) (fun _ => ?_)
              clear hK K
              refine wpAnyH_done (by kernel_rfl) ?_ _
              have HRel := times_rel (b0 := C.length) hb9 HS9.out z0 hz1 (hOx (.slice (some ⟨g3, 0, none⟩) (k + 1) c3))
              clear hOx hown9 hgrow9 hb9 hS9 hS z0 hz1 hz2
              go_wp2
              go_roundw
              case rel => exact ⟨k + 1, _, by omega, by go_num, HRel.out.1, HRel.out.2.1, HRel.out.2.2.1, HRel.out.2.2.2.1, HRel.out.2.2.2.2⟩
              case measure => simp [intOf]; omega
      · have hkb : k < b.2.length := by have := HM.out; omega
        go_wp2_with fail
        have hS : Below w1.heap.size w1 wr.drew := HB.out.drew
        refine wp_region_held_drew (S := fun w' => Below w1.heap.size w1 w') (by kernel_rfl) hS (fun _ => ?_)
        have HOx0 : Hid (wr.drew.ownsRow w1.heap.size 3 1 (.slice xo k xc) k ((addXk a.2 b.2 k).map I64)) := ownsRow_later HOx.out (Below.refl _ _).drew
        have HSm0 : Hid (Shp wr.drew w1.heap.size 37 2) := HSm.out
        have y00 : wr.drew.cell? ⟨w1.heap.size, 0, none⟩ = some (.slice co C.length cc) := y0
        have y11 : wr.drew.cell? ⟨w1.heap.size, 1, none⟩ = some (.slice xo k xc) := y1
        obtain ⟨W0, hW0⟩ : ∃ X, X = wr.drew := ⟨_, rfl⟩
        rw [← hW0] at hS HOx0 HSm0 y00 y11 ⊢
        clear hW0 HOx HSm HB hbl y0 y1 hx1 hx2 hx3 hx4
        refine wpAnyH_take (i := 0) (v := .pointer (some ⟨w1.heap.size, 1, none⟩)) rfl (by kernel_rfl) (by kernel_rfl) (by kernel_rfl) (fun _ _ _ h => h) (Or.inl ⟨by rfl, fun w' _ => by go_simp⟩) hS ?_
        simp only [Act.put, List.setIfInBounds_toArray]
        refine wpAnyH_take (i := 2) (v := .pointer (some ⟨w.heap.size, 1, none⟩)) rfl (by kernel_rfl) (by kernel_rfl) (by kernel_rfl) (fun _ _ _ h => h) (Or.inl ⟨by rfl, fun w' _ => by go_simp⟩) hS ?_
        simp only [Act.put]
        refine wpAnyH_take (i := 3) (v := .slice ao2 a.2.length ac2) rfl (by kernel_rfl) (by kernel_rfl) (by kernel_rfl) (fun _ _ _ h => h) (Or.inl ⟨by rfl, fun w' h => by have hh := (Kp.of_below h).cell _ _ x2; go_simp⟩) hS ?_
        simp only [Act.put]
        refine wpAnyH_take (i := 4) (v := .int .i64 (k : Int)) rfl (by kernel_rfl) (by kernel_rfl) (by kernel_rfl) (fun _ _ _ h => h) (Or.inl ⟨by rfl, fun w' _ => by go_simp⟩) hS ?_
        simp only [Act.put]
        refine wpAnyH_take (i := 6) (v := .pointer (some ⟨w.heap.size + 1, 1, none⟩)) rfl (by kernel_rfl) (by kernel_rfl) (by kernel_rfl) (fun _ _ _ h => h) (Or.inl ⟨by rfl, fun w' _ => by go_simp⟩) hS ?_
        simp only [Act.put]
        refine wpAnyH_take (i := 7) (v := .slice bo2 b.2.length bc2) rfl (by kernel_rfl) (by kernel_rfl) (by kernel_rfl) (fun _ _ _ h => h) (Or.inl ⟨by rfl, fun w' h => by have hh := (Kp.of_below h).cell _ _ x4; go_simp⟩) hS ?_
        simp only [Act.put]
        refine wpAnyH_take (i := 8) (v := .int .i64 (k : Int)) rfl (by kernel_rfl) (by kernel_rfl) (by kernel_rfl) (fun _ _ _ h => h) (Or.inl ⟨by rfl, fun w' _ => by go_simp⟩) hS ?_
        simp only [Act.put]
        refine wpAnyH_ready (rs := [1, 5]) (by kernel_rfl) (by simp) (AllReadyH.cons rfl (fun K hK => ?_) (AllReadyH.cons rfl (fun K hK => ?_) (AllReadyH.nil)))
        · skip
          go_simp
          refine hK.out _ _ hS (fun _ => ?_)
          clear hK K
          refine wpAnyH_ready (rs := [5]) (by kernel_rfl) (by simp) (AllReadyH.cons rfl (fun K hK => ?_) (AllReadyH.nil))
          go_simp
          refine (refExp_any _ a.2 k _ (HMa.out.2.kp ((Kp.of_below HB1.out).trans (Kp.of_below hS))) (by omega)).mono ?_
          rintro e Wx ⟨rfl, hWx⟩
          rw [hWx]
          refine hK.out _ _ hS (fun _ => ?_)
          clear hK K
          refine wpAnyH_ready (rs := [9]) (by kernel_rfl) (by simp) (AllReadyH.cons rfl (fun K hK => ?_) (AllReadyH.nil))
          go_simp
          refine (refExp_any _ b.2 k _ (HMb.out.2.kp ((Kp.of_below HB1.out).trans (Kp.of_below hS))) (by omega)).mono ?_
          rintro e Wx ⟨rfl, hWx⟩
          rw [hWx]
          refine hK.out _ _ hS (fun _ => ?_)
          clear hK K
          refine wpAnyH_take (i := 10) (v := .int .i64 (expI a.2 k + expI b.2 k)) rfl (by kernel_rfl) (by kernel_rfl) (by kernel_rfl) (fun _ _ _ h => h) (Or.inl ⟨by rfl, fun w' _ => by go_simp⟩) hS ?_
          simp only [Act.put, List.setIfInBounds_toArray]
          refine wpAnyH_ready (rs := [11]) (by kernel_rfl) (by simp) (AllReadyH.cons rfl (fun K hK => ?_) (AllReadyH.nil))
          go_simp
          refine hK.out _ _ (below_step hS (below_alloc _)) (fun hS2 => ?_)
          clear hK K
          refine wpAnyH_ready (rs := [12]) (by kernel_rfl) (by simp) (AllReadyH.cons rfl (fun K hK => ?_) (AllReadyH.nil))
          refine step_append_own rfl _ _ 30 rfl w1.heap.size 3 i1 _ 1 8 under_ints hi1 hy0 hy1 hy2 rfl (by decide) (.slice xo k xc) k ((addXk a.2 b.2 k).map I64) rfl (ownsRow_later HOx0.out (below_alloc _)) ⟨W0.heap.size, 0, none⟩ 1 1 [.int .i64 (expI a.2 k + expI b.2 k)] rfl rfl ?_ ?_ (by unfold maxLen; omega) (by omega) (Nat.le_trans hS.size (below_alloc _).size) ?_
          · intro j u hj
            rw [Addr.add_lit, Nat.zero_add, cell_of_row _ _ _ _ _ _ (heap_alloc_new _ _)]
            simpa using hj
          · intro u hu
            simp only [List.mem_cons, List.not_mem_nil, or_false] at hu
            subst hu
            rfl
          intro v3 W9 hown9 hgrow9 _
          obtain ⟨hb9, HS9, z0, hOx⟩ := times_after (z := expI a.2 k + expI b.2 k) hS HOx0.out HSm0.out HZ.out (by omega) y00 hown9 hgrow9
          obtain ⟨g3, c3, rfl⟩ := own_form hown9 (by omega)
          obtain ⟨⟨z1, hz1⟩, hz2⟩ := HS9.out.cell (k := 1) (by omega)
          refine hK.out _ _ hb9 (fun _ => ?_)
          clear hK K
          have hS9 := hb9
          clear hS hS2
          have hS := hS9
          simp only [Act.put, List.setIfInBounds_toArray]
          refine wpAnyH_take (i := 13) (v := .pointer (some ⟨w1.heap.size, 1, none⟩)) rfl (by kernel_rfl) (by kernel_rfl) (by kernel_rfl) (fun _ _ _ h => h) (Or.inl ⟨by rfl, fun w' _ => by go_simp⟩) hS ?_
          simp only [Act.put]
          refine wpAnyH_ready (rs := [14]) (by kernel_rfl) (by simp) (AllReadyH.cons rfl (fun K hK => ?_) (AllReadyH.nil))
          go_simp
          refine hK.out _ _ (hb9.setCell (p := ⟨w1.heap.size, 1, none⟩) (Nat.le_refl _) _) (fun _ => ?_)
          clear hK K
          refine wpAnyH_done (by kernel_rfl) ?_ _
          have HRel := times_rel (b0 := C.length) hb9 HS9.out z0 hz1 (hOx (.slice (some ⟨g3, 0, none⟩) (k + 1) c3))
          clear hOx hown9 hgrow9 hb9 hS9 hS z0 hz1 hz2
          go_wp2
          go_roundw
          case rel => exact ⟨k + 1, _, by omega, by go_num, HRel.out.1, HRel.out.2.1, HRel.out.2.2.1, HRel.out.2.2.2.1, HRel.out.2.2.2.2⟩
          case measure => simp [intOf]; omega
        · skip
          go_simp
          refine (refExp_any _ a.2 k _ (HMa.out.2.kp ((Kp.of_below HB1.out).trans (Kp.of_below hS))) (by omega)).mono ?_
          rintro e Wx ⟨rfl, hWx⟩
          rw [hWx]
          refine hK.out _ _ hS (fun _ => ?_)
          clear hK K
          refine wpAnyH_ready (rs := [1, 9]) (by kernel_rfl) (by simp) (AllReadyH.cons rfl (fun K hK => ?_) (AllReadyH.cons rfl (fun K hK => ?_) (AllReadyH.nil)))
          · skip
            go_simp
            refine hK.out _ _ hS (fun _ => ?_)
            clear hK K
            refine wpAnyH_ready (rs := [9]) (by kernel_rfl) (by simp) (AllReadyH.cons rfl (fun K hK => ?_) (AllReadyH.nil))
            go_simp
            refine (refExp_any _ b.2 k _ (HMb.out.2.kp ((Kp.of_below HB1.out).trans (Kp.of_below hS))) (by omega)).mono ?_
            rintro e Wx ⟨rfl, hWx⟩
            rw [hWx]
            refine hK.out _ _ hS (fun _ => ?_)
            clear hK K
            refine wpAnyH_take (i := 10) (v := .int .i64 (expI a.2 k + expI b.2 k)) rfl (by kernel_rfl) (by kernel_rfl) (by kernel_rfl) (fun _ _ _ h => h) (Or.inl ⟨by rfl, fun w' _ => by go_simp⟩) hS ?_
            simp only [Act.put, List.setIfInBounds_toArray]
            refine wpAnyH_ready (rs := [11]) (by kernel_rfl) (by simp) (AllReadyH.cons rfl (fun K hK => ?_) (AllReadyH.nil))
            go_simp
            refine hK.out _ _ (below_step hS (below_alloc _)) (fun hS2 => ?_)
            clear hK K
            refine wpAnyH_ready (rs := [12]) (by kernel_rfl) (by simp) (AllReadyH.cons rfl (fun K hK => ?_) (AllReadyH.nil))
            refine step_append_own rfl _ _ 30 rfl w1.heap.size 3 i1 _ 1 8 under_ints hi1 hy0 hy1 hy2 rfl (by decide) (.slice xo k xc) k ((addXk a.2 b.2 k).map I64) rfl (ownsRow_later HOx0.out (below_alloc _)) ⟨W0.heap.size, 0, none⟩ 1 1 [.int .i64 (expI a.2 k + expI b.2 k)] rfl rfl ?_ ?_ (by unfold maxLen; omega) (by omega) (Nat.le_trans hS.size (below_alloc _).size) ?_
            · intro j u hj
              rw [Addr.add_lit, Nat.zero_add, cell_of_row _ _ _ _ _ _ (heap_alloc_new _ _)]
              simpa using hj
            · intro u hu
              simp only [List.mem_cons, List.not_mem_nil, or_false] at hu
              subst hu
              rfl
            intro v3 W9 hown9 hgrow9 _
            obtain ⟨hb9, HS9, z0, hOx⟩ := times_after (z := expI a.2 k + expI b.2 k) hS HOx0.out HSm0.out HZ.out (by omega) y00 hown9 hgrow9
            obtain ⟨g3, c3, rfl⟩ := own_form hown9 (by omega)
            obtain ⟨⟨z1, hz1⟩, hz2⟩ := HS9.out.cell (k := 1) (by omega)
            refine hK.out _ _ hb9 (fun _ => ?_)
            clear hK K
            have hS9 := hb9
            clear hS hS2
            have hS := hS9
            simp only [Act.put, List.setIfInBounds_toArray]
            refine wpAnyH_take (i := 13) (v := .pointer (some ⟨w1.heap.size, 1, none⟩)) rfl (by kernel_rfl) (by kernel_rfl) (by kernel_rfl) (fun _ _ _ h => h) (Or.inl ⟨by rfl, fun w' _ => by go_simp⟩) hS ?_
            simp only [Act.put]
            refine wpAnyH_ready (rs := [14]) (by kernel_rfl) (by simp) (AllReadyH.cons rfl (fun K hK => ?_) (AllReadyH.nil))
            go_simp
            refine hK.out _ _ (hb9.setCell (p := ⟨w1.heap.size, 1, none⟩) (Nat.le_refl _) _) (fun _ => ?_)
            clear hK K
            refine wpAnyH_done (by kernel_rfl) ?_ _
            have HRel := times_rel (b0 := C.length) hb9 HS9.out z0 hz1 (hOx (.slice (some ⟨g3, 0, none⟩) (k + 1) c3))
            clear hOx hown9 hgrow9 hb9 hS9 hS z0 hz1 hz2
            go_wp2
            go_roundw
            case rel => exact ⟨k + 1, _, by omega, by go_num, HRel.out.1, HRel.out.2.1, HRel.out.2.2.1, HRel.out.2.2.2.1, HRel.out.2.2.2.2⟩
            case measure => simp [intOf]; omega
          · skip
            go_simp
            refine (refExp_any _ b.2 k _ (HMb.out.2.kp ((Kp.of_below HB1.out).trans (Kp.of_below hS))) (by omega)).mono ?_
            rintro e Wx ⟨rfl, hWx⟩
            rw [hWx]
            refine hK.out _ _ hS (fun _ => ?_)
            clear hK K
            refine wpAnyH_take (i := 10) (v := .int .i64 (expI a.2 k + expI b.2 k)) rfl (by kernel_rfl) (by kernel_rfl) (by kernel_rfl) (fun _ _ _ h => h) (Or.inl ⟨by rfl, fun w' _ => by go_simp⟩) hS ?_
            simp only [Act.put, List.setIfInBounds_toArray]
            refine wpAnyH_ready (rs := [1, 11]) (by kernel_rfl) (by simp) (AllReadyH.cons rfl (fun K hK => ?_) (AllReadyH.cons rfl (fun K hK => ?_) (AllReadyH.nil)))
            · skip
              go_simp
              refine hK.out _ _ hS (fun _ => ?_)
              clear hK K
              refine wpAnyH_ready (rs := [11]) (by kernel_rfl) (by simp) (AllReadyH.cons rfl (fun K hK => ?_) (AllReadyH.nil))
              go_simp
              refine hK.out _ _ (below_step hS (below_alloc _)) (fun hS2 => ?_)
              clear hK K
              refine wpAnyH_ready (rs := [12]) (by kernel_rfl) (by simp) (AllReadyH.cons rfl (fun K hK => ?_) (AllReadyH.nil))
              refine step_append_own rfl _ _ 30 rfl w1.heap.size 3 i1 _ 1 8 under_ints hi1 hy0 hy1 hy2 rfl (by decide) (.slice xo k xc) k ((addXk a.2 b.2 k).map I64) rfl (ownsRow_later HOx0.out (below_alloc _)) ⟨W0.heap.size, 0, none⟩ 1 1 [.int .i64 (expI a.2 k + expI b.2 k)] rfl rfl ?_ ?_ (by unfold maxLen; omega) (by omega) (Nat.le_trans hS.size (below_alloc _).size) ?_
              · intro j u hj
                rw [Addr.add_lit, Nat.zero_add, cell_of_row _ _ _ _ _ _ (heap_alloc_new _ _)]
                simpa using hj
              · intro u hu
                simp only [List.mem_cons, List.not_mem_nil, or_false] at hu
                subst hu
                rfl
              intro v3 W9 hown9 hgrow9 _
              obtain ⟨hb9, HS9, z0, hOx⟩ := times_after (z := expI a.2 k + expI b.2 k) hS HOx0.out HSm0.out HZ.out (by omega) y00 hown9 hgrow9
              obtain ⟨g3, c3, rfl⟩ := own_form hown9 (by omega)
              obtain ⟨⟨z1, hz1⟩, hz2⟩ := HS9.out.cell (k := 1) (by omega)
              refine hK.out _ _ hb9 (fun _ => ?_)
              clear hK K
              have hS9 := hb9
              clear hS hS2
              have hS := hS9
              simp only [Act.put, List.setIfInBounds_toArray]
              refine wpAnyH_take (i := 13) (v := .pointer (some ⟨w1.heap.size, 1, none⟩)) rfl (by kernel_rfl) (by kernel_rfl) (by kernel_rfl) (fun _ _ _ h => h) (Or.inl ⟨by rfl, fun w' _ => by go_simp⟩) hS ?_
              simp only [Act.put]
              refine wpAnyH_ready (rs := [14]) (by kernel_rfl) (by simp) (AllReadyH.cons rfl (fun K hK => ?_) (AllReadyH.nil))
              go_simp
              refine hK.out _ _ (hb9.setCell (p := ⟨w1.heap.size, 1, none⟩) (Nat.le_refl _) _) (fun _ => ?_)
              clear hK K
              refine wpAnyH_done (by kernel_rfl) ?_ _
              have HRel := times_rel (b0 := C.length) hb9 HS9.out z0 hz1 (hOx (.slice (some ⟨g3, 0, none⟩) (k + 1) c3))
              clear hOx hown9 hgrow9 hb9 hS9 hS z0 hz1 hz2
              go_wp2
              go_roundw
              case rel => exact ⟨k + 1, _, by omega, by go_num, HRel.out.1, HRel.out.2.1, HRel.out.2.2.1, HRel.out.2.2.2.1, HRel.out.2.2.2.2⟩
              case measure => simp [intOf]; omega
            · skip
              go_simp
              refine hK.out _ _ (below_step hS (below_alloc _)) (fun hS2 => ?_)
              clear hK K
              have y12 := (Kp.of_below (below_alloc (w := W0) (.cells #[.int .i64 (expI a.2 k + expI b.2 k)] 3))).cell _ _ y11
              refine wpAnyH_ready (rs := [1]) (by kernel_rfl) (by simp) (AllReadyH.cons rfl (fun K hK => ?_) (AllReadyH.nil))
              go_simp
              refine hK.out _ _ hS2 (fun _ => ?_)
              clear hK K
              refine wpAnyH_ready (rs := [12]) (by kernel_rfl) (by simp) (AllReadyH.cons rfl (fun K hK => ?_) (AllReadyH.nil))
              refine step_append_own rfl _ _ 30 rfl w1.heap.size 3 i1 _ 1 8 under_ints hi1 hy0 hy1 hy2 rfl (by decide) (.slice xo k xc) k ((addXk a.2 b.2 k).map I64) rfl (ownsRow_later HOx0.out (below_alloc _)) ⟨W0.heap.size, 0, none⟩ 1 1 [.int .i64 (expI a.2 k + expI b.2 k)] rfl rfl ?_ ?_ (by unfold maxLen; omega) (by omega) (Nat.le_trans hS.size (below_alloc _).size) ?_
              · intro j u hj
                rw [Addr.add_lit, Nat.zero_add, cell_of_row _ _ _ _ _ _ (heap_alloc_new _ _)]
                simpa using hj
              · intro u hu
                simp only [List.mem_cons, List.not_mem_nil, or_false] at hu
                subst hu
                rfl
              intro v3 W9 hown9 hgrow9 _
              obtain ⟨hb9, HS9, z0, hOx⟩ := times_after (z := expI a.2 k + expI b.2 k) hS HOx0.out HSm0.out HZ.out (by omega) y00 hown9 hgrow9
              obtain ⟨g3, c3, rfl⟩ := own_form hown9 (by omega)
              obtain ⟨⟨z1, hz1⟩, hz2⟩ := HS9.out.cell (k := 1) (by omega)
              refine hK.out _ _ hb9 (fun _ => ?_)
              clear hK K
              have hS9 := hb9
              clear hS hS2
              have hS := hS9
              simp only [Act.put, List.setIfInBounds_toArray]
              refine wpAnyH_take (i := 13) (v := .pointer (some ⟨w1.heap.size, 1, none⟩)) rfl (by kernel_rfl) (by kernel_rfl) (by kernel_rfl) (fun _ _ _ h => h) (Or.inl ⟨by rfl, fun w' _ => by go_simp⟩) hS ?_
              simp only [Act.put]
              refine wpAnyH_ready (rs := [14]) (by kernel_rfl) (by simp) (AllReadyH.cons rfl (fun K hK => ?_) (AllReadyH.nil))
              go_simp
              refine hK.out _ _ (hb9.setCell (p := ⟨w1.heap.size, 1, none⟩) (Nat.le_refl _) _) (fun _ => ?_)
              clear hK K
              refine wpAnyH_done (by kernel_rfl) ?_ _
              have HRel := times_rel (b0 := C.length) hb9 HS9.out z0 hz1 (hOx (.slice (some ⟨g3, 0, none⟩) (k + 1) c3))
              clear hOx hown9 hgrow9 hb9 hS9 hS z0 hz1 hz2
              go_wp2
              go_roundw
              case rel => exact ⟨k + 1, _, by omega, by go_num, HRel.out.1, HRel.out.2.1, HRel.out.2.2.1, HRel.out.2.2.2.1, HRel.out.2.2.2.2⟩
              case measure => simp [intOf]; omega
    · have hke : k = M := by omega
      subst hke
      obtain ⟨Xs, hXs⟩ : ∃ Xs, Xs = addX a.2 b.2 := ⟨_, rfl⟩
      have HXs : Hid (Xs = addX a.2 b.2) := hXs
      have hX : addXk a.2 b.2 k = Xs := by rw [hXs]; unfold addX; rw [HM.out]
      have HOw : Hid (OwI wr w1.heap.size (.slice xo k xc) Xs) := by
        show OwI _ _ _ _
        rw [← hX]
        refine ⟨HZ.out, ?_⟩
        rw [addXk_len]
        exact HOx.out
      clear hX hXs
      have HCr : Hid (Ow wr w.heap.size (.slice co C.length cc) (C)) := HCv.out.since HB.out
      have HSr : Hid (Shp wr (w.heap.size + 1 + 1) 37 2 ∧ w1.heap.size ≠ w.heap.size + 1 + 1) := ⟨(Spl.below (b := 0) (t := 0) HB.out).shape _ _ _ HSh.out, by omega⟩
      have HBwr : Hid (Below w.heap.size w wr) := below_step HB1.out HB.out
      have HRn : Hid (w.heap.size ≤ w.heap.size + 1 + 1 ∧ w.heap.size ≤ wr.heap.size) := ⟨by omega, HBwr.out.size⟩
      by_cases hme : E = 0
      · go_wp2_with fail
        have hS : TmS wr w1.heap.size (w.heap.size + 1 + 1) (.slice co C.length cc) (.slice xo k xc) wr.drew := TmS.drew HSm.out HSr.out y0 y1
        refine wp_region_held_drew (S := TmS wr w1.heap.size (w.heap.size + 1 + 1) (.slice co C.length cc) (.slice xo k xc)) (by kernel_rfl) hS (fun _ => ?_)
        have bW : Below wr.heap.size wr wr.drew := (Below.refl _ _).drew
        obtain ⟨W0, hW0⟩ : ∃ X, X = wr.drew := ⟨_, rfl⟩
        rw [← hW0] at hS bW ⊢
        clear hW0
        refine wpAnyH_take (i := 0) (v := .agg #[.slice co C.length cc, .slice xo k xc]) rfl (by kernel_rfl) (by kernel_rfl) (by kernel_rfl) (fun _ _ _ h => h) (Or.inl ⟨by rfl, fun w' h => by have hh0 := h.cell0; have hh1 := h.cell1; go_simp⟩) hS ?_
        simp only [Act.put, List.setIfInBounds_toArray]
        refine wpAnyH_take (i := 1) (v := .int .i64 (E)) rfl (by kernel_rfl) (by kernel_rfl) (by kernel_rfl) (fun _ _ _ h => h) (Or.inl ⟨by rfl, fun w' _ => by go_simp⟩) hS ?_
        simp only [Act.put]
        refine wpAnyH_take (i := 2) (v := .bool true) rfl (by kernel_rfl) (by kernel_rfl) (by kernel_rfl) (fun _ _ _ h => h) (Or.inl ⟨by rfl, fun w' _ => by go_simp⟩) hS ?_
        simp only [Act.put]
        refine wpAnyH_take (i := 3) (v := .bool true) rfl (by kernel_rfl) (by kernel_rfl) (by kernel_rfl) (fun _ _ _ h => h) (Or.inl ⟨by rfl, fun w' _ => by go_simp⟩) hS ?_
        simp only [Act.put]
        refine wpAnyH_take (i := 4) (v := .agg #[.slice co C.length cc, .slice xo k xc]) rfl (by kernel_rfl) (by kernel_rfl) (by kernel_rfl) (fun _ _ _ h => h) (Or.inl ⟨by rfl, fun w' h => by have hh0 := h.cell0; have hh1 := h.cell1; go_simp⟩) hS ?_
        simp only [Act.put]
        refine wpAnyH_ready (rs := [5]) (by kernel_rfl) (by simp) (AllReadyH.cons rfl (fun K hK => ?_) (AllReadyH.nil))
        go_simp
        refine (refSmall_any (.slice co C.length cc) (.slice xo k xc) (C, Xs) _ ⟨HCr.out.sl.kp (Kp.of_below bW), HOw.out.is.kp (Kp.of_below bW)⟩).mono ?_
        rintro e W1 ⟨rfl, hb1⟩
        refine hK.out _ _ (hS.below hb1) (fun hS1 => ?_)
        clear hK K
        have bW1 := below_step bW hb1
        clear bW hb1 hS
        have hS := hS1
        clear hS1
        obtain ⟨B, hB⟩ : ∃ B, B = smallR (C, Xs) := ⟨_, rfl⟩
        rw [← hB]
        have HBt : Hid (timesB a b = B) := by show _ = _; unfold timesB mulMn; rw [← HE.out, ← HC.out, ← HXs.out, decide_eq_true hme, hB]; rfl
        clear hB
        refine wpAnyH_take (i := 6) (v := .bool B) rfl (by kernel_rfl) (by kernel_rfl) (by kernel_rfl) (fun _ _ _ h => h) (Or.inl ⟨by rfl, fun w' _ => by go_simp⟩) hS ?_
        simp only [Act.put, List.setIfInBounds_toArray]
        obtain ⟨⟨q0, hq0⟩, hq1⟩ := hS.res.cell (k := 0) (by omega)
        obtain ⟨⟨q2, hq2⟩, hq3⟩ := (hS.res.setCell (w.heap.size + 1 + 1) 0 (.slice co C.length cc)).cell (k := 1) (by omega)
        refine wpAnyH_ready (rs := [7]) (by kernel_rfl) (by simp) (AllReadyH.cons rfl (fun K hK => ?_) (AllReadyH.nil))
        go_simp
        refine hK.out _ _ (hS.stored hq0 hq2) (fun hS1 => ?_)
        clear hK K
        have HFin := TmS.fin (bs := w.heap.size) HBwr.out bW1 HCr.out HOw.out hS hS1 hq0 hq2 (by omega) HRn.out
        clear hS bW1
        have hS := hS1
        clear hS1
        refine wpAnyH_take (i := 8) (v := .bool B) rfl (by kernel_rfl) (by kernel_rfl) (by kernel_rfl) (fun _ _ _ h => h) (Or.inl ⟨by rfl, fun w' _ => by go_simp⟩) hS ?_
        simp only [Act.put, List.setIfInBounds_toArray]
        simp only [List.getElem_toArray, List.getElem_cons_succ, List.getElem_cons_zero, List.set_cons_zero, List.set_cons_succ]
        refine wpAnyH_done (by kernel_rfl) ?_ _
        obtain ⟨f0, f1⟩ := HFin.out.1
        clear hS
        go_wp2
        refine bodyPost_ret (results_cell (t := 4) (u := 5) (ty := 37) (ad := ⟨w.heap.size + 1 + 1, 0, none⟩) (v := .agg #[.slice co C.length cc, .slice xo k xc]) rfl rfl (by go_simp)) rfl ?_
        exact ⟨_, _, by rw [HBt.out]; rfl, by rw [← HC.out]; exact HFin.out.2.1, by rw [← HXs.out]; exact HFin.out.2.2.1, HFin.out.2.2.2⟩
      · have HBt : Hid (timesB a b = false) := by show _ = _; unfold timesB; rw [← HE.out, decide_eq_false hme]; rfl
        have hmb : (E == 0) = false := by simpa using hme
        go_wp2_with fail
        have hS : TmS wr w1.heap.size (w.heap.size + 1 + 1) (.slice co C.length cc) (.slice xo k xc) wr.drew := TmS.drew HSm.out HSr.out y0 y1
        refine wp_region_held_drew (S := TmS wr w1.heap.size (w.heap.size + 1 + 1) (.slice co C.length cc) (.slice xo k xc)) (by kernel_rfl) hS (fun _ => ?_)
        have bW : Below wr.heap.size wr wr.drew := (Below.refl _ _).drew
        obtain ⟨W0, hW0⟩ : ∃ X, X = wr.drew := ⟨_, rfl⟩
        rw [← hW0] at hS bW ⊢
        clear hW0
        refine wpAnyH_take (i := 0) (v := .agg #[.slice co C.length cc, .slice xo k xc]) rfl (by kernel_rfl) (by kernel_rfl) (by kernel_rfl) (fun _ _ _ h => h) (Or.inl ⟨by rfl, fun w' h => by have hh0 := h.cell0; have hh1 := h.cell1; go_simp⟩) hS ?_
        simp only [Act.put, List.setIfInBounds_toArray]
        refine wpAnyH_take (i := 1) (v := .int .i64 (E)) rfl (by kernel_rfl) (by kernel_rfl) (by kernel_rfl) (fun _ _ _ h => h) (Or.inl ⟨by rfl, fun w' _ => by go_simp⟩) hS ?_
        simp only [Act.put]
        refine wpAnyH_take (i := 2) (v := .bool false) rfl (by kernel_rfl) (by kernel_rfl) (by kernel_rfl) (fun _ _ _ h => h) (Or.inl ⟨by rfl, fun w' _ => by go_simp⟩) hS ?_
        simp only [Act.put]
        refine wpAnyH_take (i := 3) (v := .bool false) rfl (by kernel_rfl) (by kernel_rfl) (by kernel_rfl) (fun _ _ _ h => h) (Or.inl ⟨by rfl, fun w' _ => by go_simp⟩) hS ?_
        simp only [Act.put]
        refine wpAnyH_take (i := 4) (v := undef) rfl (by kernel_rfl) (by kernel_rfl) (by kernel_rfl) (fun _ _ _ h => h) (Or.inr ⟨by rfl, rfl⟩) hS ?_
        simp only [Act.put]
        refine wpAnyH_take (i := 5) (v := undef) rfl (by kernel_rfl) (by kernel_rfl) (by kernel_rfl) (fun _ _ _ h => h) (Or.inr ⟨by rfl, rfl⟩) hS ?_
        simp only [Act.put]
        have bW1 := bW
        clear bW
        obtain ⟨W1, hW1⟩ : ∃ X, X = W0 := ⟨_, rfl⟩
        rw [← hW1] at hS bW1 ⊢
        clear hW1
        refine wpAnyH_take (i := 6) (v := .bool false) rfl (by kernel_rfl) (by kernel_rfl) (by kernel_rfl) (fun _ _ _ h => h) (Or.inl ⟨by rfl, fun w' _ => by go_simp⟩) hS ?_
        simp only [Act.put]
        obtain ⟨⟨q0, hq0⟩, hq1⟩ := hS.res.cell (k := 0) (by omega)
        obtain ⟨⟨q2, hq2⟩, hq3⟩ := (hS.res.setCell (w.heap.size + 1 + 1) 0 (.slice co C.length cc)).cell (k := 1) (by omega)
        refine wpAnyH_ready (rs := [7]) (by kernel_rfl) (by simp) (AllReadyH.cons rfl (fun K hK => ?_) (AllReadyH.nil))
        go_simp
        refine hK.out _ _ (hS.stored hq0 hq2) (fun hS1 => ?_)
        clear hK K
        have HFin := TmS.fin (bs := w.heap.size) HBwr.out bW1 HCr.out HOw.out hS hS1 hq0 hq2 (by omega) HRn.out
        clear hS bW1
        have hS := hS1
        clear hS1
        refine wpAnyH_take (i := 8) (v := .bool false) rfl (by kernel_rfl) (by kernel_rfl) (by kernel_rfl) (fun _ _ _ h => h) (Or.inl ⟨by rfl, fun w' _ => by go_simp⟩) hS ?_
        simp only [Act.put, List.setIfInBounds_toArray]
        simp only [List.getElem_toArray, List.getElem_cons_succ, List.getElem_cons_zero, List.set_cons_zero, List.set_cons_succ]
        refine wpAnyH_done (by kernel_rfl) ?_ _
        obtain ⟨f0, f1⟩ := HFin.out.1
        clear hS
        go_wp2
        refine bodyPost_ret (results_cell (t := 4) (u := 5) (ty := 37) (ad := ⟨w.heap.size + 1 + 1, 0, none⟩) (v := .agg #[.slice co C.length cc, .slice xo k xc]) rfl rfl (by go_simp)) rfl ?_
        exact ⟨_, _, by rw [HBt.out]; rfl, by rw [← HC.out]; exact HFin.out.2.1, by rw [← HXs.out]; exact HFin.out.2.2.1, HFin.out.2.2.2⟩

end Go.Proofs.YtdjmjhlbjcgoiaaGreatDoor
