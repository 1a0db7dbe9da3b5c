/- A text of the proof. -/
import Derived.Test.YtdjmjhlbjcgoiaaGreatDoorOwn15
set_option maxRecDepth 1000000
set_option maxHeartbeats 6400000
namespace Go.Proofs.YtdjmjhlbjcgoiaaGreatDoor
open Go.RowKit Go.Maps Go.Shelf
attribute [local go_sem] Oper.semAt_some
theorem xDM {α : Type} (l : List α) {r : Nat} (_hr : r ≤ l.length) : (l.drop r).reverse = l.reverse.take (l.length - r) := by
 have e1 : l.reverse = (l.drop r).reverse ++ (l.take r).reverse := by rw [← List.reverse_append, zQ]
 rw [e1, show l.length - r = (l.drop r).reverse.length by rw [yX, zI], List.take_left]
theorem GM.node {w W W9 w3 : World} {S : Nat → Nat → Value} {sv v gv cv : Value} {vals : List Value} {st : List Tr} {r bq p p' : Nat} (h : GM w W S sv v gv vals st p) (hr : r ≤ vals.length) (hb9 : Below W.heap.size W W9) (hcv : W9.ownsRow W.heap.size 187 1 cv (vals.drop r).length (vals.drop r).reverse)
  (hbq : W9.heap.size ≤ bq) (h0 : w3.cell? ⟨bq, 0, none⟩ = some (S p' (1 + sizes (st.drop r).reverse))) (h1 : w3.cell? ⟨bq, 1, none⟩ = some cv) (hb3 : Below W9.heap.size W9 w3) (hp : p' + 1 = p) :
  TP w3 (fun b => w.heap.size + 4 ≤ b ∧ b < w3.heap.size ∧ gv.ownBlock ≠ some b) S (.iface 222 (.pointer (some ⟨bq, 0, none⟩))) (.app (st.drop r).reverse) p' := by
 have hsz := h.sz
 have hblt : ∀ b, gv.ownBlock = some b → b < W.heap.size := fun b hb => by
  rcases h.own.2 with ⟨h8, _⟩ | ⟨g8, c8, cur8, h8, _, hg8, _⟩
  ·rw [h8] at hb; cases hb
  rw [h8] at hb
  cases hb
  exact (zL.1 hg8).1
 have hw39 := hb3.size
 have hw9 := hb9.size
 have hbqlt : bq < w3.heap.size := yJ _ _ h0
 have hlk : vals.length = st.length := by have := h.tv.len; rw [yX, yX] at this; exact this
 have hlen : (st.drop r).reverse.length = (vals.drop r).length := by rw [yX, zI, zI, hlk]
 have htl : TPl w3 (fun b => w.heap.size + 4 ≤ b ∧ b < w3.heap.size ∧ gv.ownBlock ≠ some b) S (vals.drop r).reverse (st.drop r).reverse (p' + 1) := by
  rw [xDM vals hr, xDM st (by omega), ← hlk, hp]
  exact (h.tv.take (vals.length - r)).1.keep (fun b o x hA hx => (zK (zS hb9 hb3)).cell _ _ hx) (fun b hA => ⟨hA.1, by omega, hA.2.2⟩)
 have hcv3 := xAC hcv hb3
 unfold TP
 rcases hcv3.2 with ⟨h8, hn⟩ | ⟨g8, c8, cur8, h8, hgb, hg8, hc8, hm8, _⟩
 ·refine ⟨bq, none, 0, rfl, ⟨by omega, hbqlt, fun e => by have := hblt bq e; omega⟩, h0, by rw [h1, h8, hlen, hn], by omega, by simp [maxLen], .inl (zE (by omega))⟩
 refine ⟨bq, some ⟨g8, 0, none⟩, c8, rfl, ⟨by omega, hbqlt, fun e => by have := hblt bq e; omega⟩, h0, by rw [h1, h8, hlen], by omega, hm8, .inr ⟨g8, 0, rfl, ⟨by omega, (zL.1 hg8).1, fun e => by have := hblt g8 e; omega⟩, ?_⟩⟩
 refine TPs_of_TPl htl fun j u hj => ?_
 rw [h8] at hcv3
 have hjl := (zB.1 hj).1
 rw [yX] at hjl
 rw [Nat.zero_add, World.ownsRow.cellAt hcv3 j (by omega)]
 exact hj
def growMA (sv v : Value) (B : Nat) (t : List Int) (k : Nat) : Act :=
 { tmps := #[sv, v, .pointer (some ⟨B, 0, none⟩), .pointer (some ⟨B + 1, 0, none⟩), .nilIface, .pointer (some ⟨B + 1 + 1, 0, none⟩), .int .i64 ((t.length - 1 - k : Nat) : Int), .int .i64 (t.reverse[k]?.getD 0), undef, undef, v, .func (.func 155) #[] #[.pointer (some ⟨B + 1 + 1 + 1, 0, none⟩)], .int .i64 ((t.length - 1 - k : Nat) : Int), .int .i64 (t.reverse[k]?.getD 0), undef, undef, undef, undef, undef, undef, undef, undef, undef, undef, undef, undef, undef, undef, undef, undef, undef, undef, undef, undef, undef, undef, undef, undef, undef, undef, undef, undef, undef, undef, undef, undef, undef, undef, undef, undef, undef, undef, undef], defers := [] }
theorem growM_any (sv : Value) (b off cap : Nat) (sig : List Sy) (t : List Int) (w : World) (hs : Sg w sv sig) (h : Is w (.slice (some ⟨b, off, none⟩) t.length cap) t) (ha : ArOk sig) (hr : rowE sig t = 0) (hb : t.length * 16 ≤ 140737488351232) :
  Calls Tryz.prog 134 #[sv, .slice (some ⟨b, off, none⟩) t.length cap] w fun e w' => ∃ u T A, e = .returned u ∧ growR sig t = [T] ∧ TP w' A (cdS b off cap) u T 0 ∧ (∀ b, A b → w.heap.size ≤ b ∧ b < w'.heap.size) ∧ Below w.heap.size w w' := by
 obtain ⟨so, sc, rfl, hso, hsc, _⟩ := Row.flat hs
 have hao : t.length ≤ cap ∧ cap ≤ maxLen := by
  obtain ⟨_, c9, e9, h8, h9, _⟩ := Row.flat h
  simp only [zZ] at e9
  obtain ⟨_, _, rfl⟩ := e9
  exact ⟨h8, h9⟩
 obtain ⟨hao, hca⟩ := hao
 unfold maxLen at hsc hca
 have htl : 0 < t.length := by
  cases t with
  | nil => simp [rowE, firstT] at hr
  | cons c t => simp
 have hread : ∀ (j : Nat) (c : Int), t[j]? = some c → w.cell? ⟨b, off + j, none⟩ = some (.int .i64 c) := fun j c hj => by
  obtain ⟨b', off', c', e, h1, h2, _⟩ := h.at (zB.1 hj).1
  simp only [zX, Addr.mk.injEq, and_true] at e
  obtain ⟨rfl, rfl⟩ := e
  rw [hj] at h1
  cases h1
  exact h2
 have HS := hid hs
 have HRd := hid hread
 have HA := hid ha
 have HR := hid hr
 clear hs h ha hr hread
 refine (callsIn_wide (n := 3)).1 ?_
 refine callsIn_of_wp_marks Tryz.func134 rfl trivial ?_ rfl
 simp only [Tryz.ntmps134, List.size_toArray, zG, List.length_nil, Nat.reduceAdd, Nat.reduceSub, Array.replicate_succ, Array.replicate_zero, List.push_toArray, List.append_toArray, yH, yG]
 gi_wp2_with fail
 refine ⟨trivial, ?_⟩
 refine (back_any _ _ _ _ Fence.wide _ trivial rfl).mono ?_
 rintro e w' ⟨rfl, rfl⟩
 gi_wp2_with fail
 have hB0 : Below w.heap.size w ((((w.alloc (.cells #[.slice so sig.length sc] 22)).alloc (.cells #[.slice (some ⟨b, off, none⟩) t.length cap] 30)).alloc (.cells #[.slice none 0 0] 223)).alloc (.cells #[.slice (some ⟨b, off, none⟩) t.length cap] 30)) := zS (zS (zS (zA _) (zA _)) (zA _)) (zA _)
 refine range_rounds rfl (by omega) (gf := 155) (lb := #[.pointer (some ⟨w.heap.size + 3, 0, none⟩)]) (by simp [go_sem]) trivial (enters_of Tryz.func155 (by kernel_rfl) rfl)
  (backA t) t.length (fun _ => rfl) (BackR (w.heap.size + 3) b off cap t) (fun k W => ∃ gv vals, GM w W (cdS b off cap) (.slice so sig.length sc) (.slice (some ⟨b, off, none⟩) t.length cap) gv vals (growR sig (t.drop (t.length - k))) (t.length - k))
  ?_ ?_ ?_ ?_ (growMA (.slice so sig.length sc) (.slice (some ⟨b, off, none⟩) t.length cap) w.heap.size t) ?assign ?body ?done
 ·rintro k W l o o' hl ho hc ⟨gv, vals, hg⟩
  exact ⟨gv, vals, hg.put (by simpa using hl) ho hc⟩
 ·intro r
  refine ⟨.slice none 0 0, [], ?_⟩
  rw [show t.length - 0 = t.length by omega, List.drop_length]
  have hst0 : GM w ((((w.alloc (.cells #[.slice so sig.length sc] 22)).alloc (.cells #[.slice (some ⟨b, off, none⟩) t.length cap] 30)).alloc (.cells #[.slice none 0 0] 223)).alloc (.cells #[.slice (some ⟨b, off, none⟩) t.length cap] 30)) (cdS b off cap) (.slice so sig.length sc) (.slice (some ⟨b, off, none⟩) t.length cap) (.slice none 0 0) [] [] t.length :=
   ⟨(zK (zA _)).cell _ _ (xFM (by simp) rfl), by rw [xEK (Below.heap_alloc _ _ _ (by simp))]; exact frozen_newg (by simp), (zK (zA _)).cell _ _ ((zK (zA _)).cell _ _ ((zK (zA _)).cell _ _ (xFM rfl rfl))), (zK (zA _)).cell _ _ ((zK (zA _)).cell _ _ (xFM (by simp) rfl)), xFM (by simp) rfl, World.ownsRow_nil _ _ _ _, trivial, hB0, by simp⟩
  exact hst0.later (zS (zA _) (zA _))
 ·rintro k W ⟨gv, vals, hg⟩
  exact ⟨hg.bck, fun j c hj => (hg.bel.cell (p := ⟨b, off + j, none⟩) (yJ _ _ (HRd.out j c hj))).trans (HRd.out j c hj)⟩
 ·intro l J W hR hY h0
  exact back_rounds Fence.wide _ trivial rfl (by omega) (w.heap.size + 3) b off cap t (by omega) hao (by omega) l J W hR hY h0
 case assign =>
  intro l k W K hK
  unfold backA
  gi_wp2
  exact hK
 case body =>
  rintro l k W hk ⟨gv, vals, hg⟩
  obtain ⟨c, hc1, hc2, hc3⟩ := drop_rev hk
  have hst : growR sig (t.drop (t.length - (k + 1))) = growStep sig (growR sig (t.drop (t.length - k))) c := by rw [hc2]; rfl
  have hvl : vals.length = (growR sig (t.drop (t.length - k))).length := by have := hg.tv.len; rw [yX, yX] at this; exact this
  have hsl : (growR sig (t.drop (t.length - k))).length ≤ k := by
   have h1 := len_sizes (growR sig (t.drop (t.length - k)))
   rw [xAW, zI] at h1
   omega
  have HG := hid hg
  have hbx := hg.box
  have hfz := hg.frz
  have hsb := hg.sigb
  have hrb := hg.rowb
  have hWs := hg.sz
  obtain ⟨go, gc, hgv, hgc1, hgc2⟩ : ∃ ao cap, gv = .slice ao vals.length cap ∧ vals.length ≤ cap ∧ cap ≤ 9223372036854775807 := by
   rcases hg.own.2 with ⟨h8, h9⟩ | ⟨g8, c8, cur8, h8, _, _, h9, h7, _⟩
   ·exact ⟨none, 0, by rw [h8, h9], by omega, by omega⟩
   exact ⟨_, c8, h8, h9, by unfold maxLen at h7; omega⟩
  have HGv := hid hgv
  rw [hgv] at hbx
  unfold growMA
  rw [hc1, Option.getD_some]
  have HSt := hid hst
  have HVl := hid hvl
  have hvk : vals.length ≤ k := by omega
  have HC3 := hid hc3
  clear hg hgv hst hc1 hc2 hc3 hvl hsl
  obtain ⟨j, hj⟩ : ∃ j, j = t.length - 1 - k := ⟨_, rfl⟩
  have HJ : Hid (t.length - (k + 1) = j) := by show _ = _; omega
  have HJt : Hid (j + 1 = t.length - k) := by show _ = _; omega
  have hjl : j < t.length := by omega
  rw [← hj]
  clear hj
  by_cases hcv : c < 0
  ·obtain ⟨g, cp, W2, hr2, hb2, hf2, hg2, hk2⟩ := HG.out.push 223 (u := (.iface 216 (.agg #[.slice (some ⟨b, off + j, none⟩) 1 (cap - j)]))) (T := .var) (k := vals.length) (p' := j) HGv.out (Nat.le_refl _) (xAF W) (by unfold TP cdS; rfl) (by rw [HVl.out, List.drop_length]; simp only [Tr.size, sizes]; have := HJt.out; omega) (by omega)
   have HR2 := hid hr2
   have HG2 := hid hg2
   have HK2 := hid hk2
   have HSt2 : Hid (growR sig (t.drop (t.length - (k + 1))) = (growR sig (t.drop (t.length - k))).take vals.length ++ [.var]) := by
    show _ = _
    rw [HSt.out, growStep, if_pos hcv, HVl.out, List.take_length]
   have mixed : Tryz.prog.follows .mixedOrders = true := by kernel_rfl
   rw [HGv.out] at hb2
   have hbx1 : W.drew.cell? ⟨w.heap.size + 2, 0, none⟩ = some (.slice go vals.length gc) := hbx
   have hbx2 : (W.alloc (.cells #[(.iface 216 (.agg #[.slice (some ⟨b, off + j, none⟩) 1 (cap - j)]))] 187)).cell? ⟨w.heap.size + 1 + 1, 0, none⟩ = some (.slice go vals.length gc) := (zK (zA _)).cell _ _ hbx
   have hrb1 : W.drew.cell? ⟨w.heap.size + 1, 0, none⟩ = some (.slice (some ⟨b, off, none⟩) t.length cap) := hrb
   have hwj : IntKind.i64.wrap ((j : Int) + 1) = (j : Int) + 1 := yA _ ⟨by omega, by omega⟩
   have hcj : ¬ cap = j := by omega
   have hj0 : (0 : Int) ≤ (j : Int) + 1 := by omega
   have hj1 : j + 1 ≤ cap := by omega
   have hj3 : (j : Int) + 1 ≤ (cap : Int) := by omega
   have hj2 : j ≤ j + 1 := by omega
   clear hr2 hg2 hk2
   gi_upto_region 6 with fail
   refine wpIn_region_any mixed ?_
   change wpAnyIn _ _ _ _ _ _ _ _ _ (World.drew _)
   refine xCW (F := Fence.wide) l (by kernel_rfl) _ _ _ _ ?_
   refine wpAnyIn_take (i := 2) (v := .int .i64 (j : Int)) rfl rfl (by kernel_rfl) (by kernel_rfl) (by kernel_rfl) (fun _ _ _ h => h) ⟨Or.inl ⟨by rfl, ?_⟩, fun _ => rfl⟩ ?_
   ·intro wx
    go_simp
   refine wpAnyIn_take (i := 3) (v := .int .i64 (j : Int)) rfl rfl (by kernel_rfl) (by kernel_rfl) (by kernel_rfl) (fun _ _ _ h => h) ⟨Or.inl ⟨by rfl, ?_⟩, fun _ => rfl⟩ ?_
   ·intro wx
    go_simp
   refine wpAnyIn_take (i := 4) (v := .int .i64 ((j : Int) + 1)) rfl rfl (by kernel_rfl) (by kernel_rfl) (by kernel_rfl) (fun _ _ _ h => h) ⟨Or.inl ⟨by rfl, ?_⟩, fun _ => rfl⟩ ?_
   ·intro wx
    go_simp
   refine wpAnyIn_ready (rs := [0, 1]) (by kernel_rfl) (by simp) ?_
   refine AllReadyIn.cons rfl (fun K hK => ?_) ?_
   ·go_simp
    refine hK _ _ ?_
    clear hK K
    refine wpAnyIn_ready (rs := [1]) (by kernel_rfl) (by simp) ?_
    refine AllReadyIn.cons rfl (fun K hK => ?_) ?_
    ·go_simp
     refine hK _ _ ?_
     clear hK K
     refine wpAnyIn_take (i := 5) (v := .slice (some ⟨b, off + j, none⟩) 1 (cap - j)) rfl rfl (by kernel_rfl) (by kernel_rfl) (by kernel_rfl) (fun _ _ _ h => h) ⟨Or.inl ⟨by rfl, ?_⟩, fun _ => rfl⟩ ?_
     ·intro wx
      go_simp
     refine wpAnyIn_take (i := 6) (v := .agg #[.slice (some ⟨b, off + j, none⟩) 1 (cap - j)]) rfl rfl (by kernel_rfl) (by kernel_rfl) (by kernel_rfl) (fun _ _ _ h => h) ⟨Or.inl ⟨by rfl, ?_⟩, fun _ => rfl⟩ ?_
     ·intro wx
      go_simp
     refine wpAnyIn_take (i := 7) (v := .iface 216 (.agg #[.slice (some ⟨b, off + j, none⟩) 1 (cap - j)])) rfl rfl (by kernel_rfl) (by kernel_rfl) (by kernel_rfl) (fun _ _ _ h => h) ⟨Or.inl ⟨by rfl, ?_⟩, fun _ => rfl⟩ ?_
     ·intro wx
      go_simp
     refine wpAnyIn_ready (rs := [8]) (by kernel_rfl) (by simp) ?_
     refine AllReadyIn.cons rfl (fun K hK => ?_) ?_
     ·go_simp
      refine hK _ _ ?_
      clear hK K
      refine wpAnyIn_ready (rs := [9]) (by kernel_rfl) (by simp) ?_
      refine AllReadyIn.cons rfl (fun K hK => ?_) ?_
      ·rw [if_pos (by rfl)]
       refine xAD _ _ _ rfl _ _ rfl rfl HR2.out ?_
       refine hK _ _ ?_
       clear hK K
       refine wpAnyIn_ready (rs := [10]) (by kernel_rfl) (by simp) ?_
       refine AllReadyIn.cons rfl (fun K hK => ?_) ?_
       ·go_simp
        refine hK _ _ ?_
        clear hK K
        refine wpAnyIn_done (by kernel_rfl) ?_ _
        gi_wp2_with fail
        exact ⟨HK2.out, _, _, by rw [HSt2.out, HJ.out]; exact HG2.out⟩
       exact AllReadyIn.nil
      exact AllReadyIn.nil
     exact AllReadyIn.nil
    exact AllReadyIn.nil
   refine AllReadyIn.cons rfl (fun K hK => ?_) ?_
   ·go_simp
    refine hK _ _ ?_
    clear hK K
    refine wpAnyIn_take (i := 5) (v := .slice (some ⟨b, off + j, none⟩) 1 (cap - j)) rfl rfl (by kernel_rfl) (by kernel_rfl) (by kernel_rfl) (fun _ _ _ h => h) ⟨Or.inl ⟨by rfl, ?_⟩, fun _ => rfl⟩ ?_
    ·intro wx
     go_simp
    refine wpAnyIn_take (i := 6) (v := .agg #[.slice (some ⟨b, off + j, none⟩) 1 (cap - j)]) rfl rfl (by kernel_rfl) (by kernel_rfl) (by kernel_rfl) (fun _ _ _ h => h) ⟨Or.inl ⟨by rfl, ?_⟩, fun _ => rfl⟩ ?_
    ·intro wx
     go_simp
    refine wpAnyIn_take (i := 7) (v := .iface 216 (.agg #[.slice (some ⟨b, off + j, none⟩) 1 (cap - j)])) rfl rfl (by kernel_rfl) (by kernel_rfl) (by kernel_rfl) (fun _ _ _ h => h) ⟨Or.inl ⟨by rfl, ?_⟩, fun _ => rfl⟩ ?_
    ·intro wx
     go_simp
    refine wpAnyIn_ready (rs := [0, 8]) (by kernel_rfl) (by simp) ?_
    refine AllReadyIn.cons rfl (fun K hK => ?_) ?_
    ·go_simp
     refine hK _ _ ?_
     clear hK K
     refine wpAnyIn_ready (rs := [8]) (by kernel_rfl) (by simp) ?_
     refine AllReadyIn.cons rfl (fun K hK => ?_) ?_
     ·go_simp
      refine hK _ _ ?_
      clear hK K
      refine wpAnyIn_ready (rs := [9]) (by kernel_rfl) (by simp) ?_
      refine AllReadyIn.cons rfl (fun K hK => ?_) ?_
      ·rw [if_pos (by rfl)]
       refine xAD _ _ _ rfl _ _ rfl rfl HR2.out ?_
       refine hK _ _ ?_
       clear hK K
       refine wpAnyIn_ready (rs := [10]) (by kernel_rfl) (by simp) ?_
       refine AllReadyIn.cons rfl (fun K hK => ?_) ?_
       ·go_simp
        refine hK _ _ ?_
        clear hK K
        refine wpAnyIn_done (by kernel_rfl) ?_ _
        gi_wp2_with fail
        exact ⟨HK2.out, _, _, by rw [HSt2.out, HJ.out]; exact HG2.out⟩
       exact AllReadyIn.nil
      exact AllReadyIn.nil
     exact AllReadyIn.nil
    refine AllReadyIn.cons rfl (fun K hK => ?_) ?_
    ·go_simp
     refine hK _ _ ?_
     clear hK K
     refine wpAnyIn_ready (rs := [0]) (by kernel_rfl) (by simp) ?_
     refine AllReadyIn.cons rfl (fun K hK => ?_) ?_
     ·go_simp
      refine hK _ _ ?_
      clear hK K
      refine wpAnyIn_ready (rs := [9]) (by kernel_rfl) (by simp) ?_
      refine AllReadyIn.cons rfl (fun K hK => ?_) ?_
      ·rw [if_pos (by rfl)]
       refine xAD _ _ _ rfl _ _ rfl rfl HR2.out ?_
       refine hK _ _ ?_
       clear hK K
       refine wpAnyIn_ready (rs := [10]) (by kernel_rfl) (by simp) ?_
       refine AllReadyIn.cons rfl (fun K hK => ?_) ?_
       ·go_simp
        refine hK _ _ ?_
        clear hK K
        refine wpAnyIn_done (by kernel_rfl) ?_ _
        gi_wp2_with fail
        exact ⟨HK2.out, _, _, by rw [HSt2.out, HJ.out]; exact HG2.out⟩
       exact AllReadyIn.nil
      exact AllReadyIn.nil
     exact AllReadyIn.nil
    exact AllReadyIn.nil
   exact AllReadyIn.nil
  obtain ⟨cn, rfl⟩ : ∃ cn : Nat, c = cn := ⟨c.toNat, by omega⟩
  obtain ⟨hcl, har⟩ := xDZ HA.out _ _ _ 1 0 (by omega) (by rw [← HC3.out, xAI.1 HR.out]; simp) hcv
  rw [Int.toNat_natCast] at hcl
  obtain ⟨sg, soff, nm, ar, rfl, hs1, hs2, hs3, hs4, hs5, hs6⟩ := HS.out.at hcl
  have harI := HA.out _ (zD hs1)
  simp only at harI
  have hArN : arN sig (cn : Int) = ar.toNat := by unfold arN; rw [Int.toNat_natCast, hs1]
  obtain ⟨r, hrr⟩ : ∃ r : Nat, r = vals.length - ar.toNat := ⟨_, rfl⟩
  have hrl : r ≤ vals.length := by omega
  have hrI : (vals.length : Int) - ar = (r : Int) := by rw [← HVl.out] at har; omega
  have hwr : IntKind.i64.wrap ((vals.length : Int) - ar) = (r : Int) := by rw [hrI]; exact yA _ ⟨by omega, by omega⟩
  have hs3W := (HG.out.bel.cell (p := ⟨sg, soff + cn * 2 + 1, none⟩) (yJ _ _ hs3)).trans hs3
  have HSt2 : Hid (growR sig (t.drop (t.length - (k + 1))) = (growR sig (t.drop (t.length - k))).take r ++ [.app ((growR sig (t.drop (t.length - k))).drop r).reverse]) := by
   show _ = _
   rw [HSt.out, growStep, if_neg hcv, hArN, ← HVl.out, ← hrr]
  have hwr2 : IntKind.i64.wrap (r : Int) = (r : Int) := yA _ ⟨by omega, by omega⟩
  have mixed : Tryz.prog.follows .mixedOrders = true := by kernel_rfl
  have HIf : Hid (∀ u ∈ vals, IfV u) := fun u hu => HG.out.tv.ifv u (yZ.2 hu)
  have HHar := hid har
  clear hs1 hs2 hs3 hrr har
  gi_upto_region 7 with fail
  gi_cut [8] from 26 (fun x wx => x = .int .i64 (r : Int) ∧ wx = W.drew)
  case first =>
   gi_region_with_o (fail)
   all_goals (gi_wp2; gi_meet; exact ⟨rfl, rfl⟩)
  case rest =>
   obtain ⟨rfl, hwc⟩ := hcut
   have HGq := hid (HG.out.later (xAF W))
   have HKq : Hid (KeepsFrom (w.heap.size + 4) W W.drew) := KeepsFrom.of_grownBy (xAA (xAF W) none) (fun j hj => by cases hj)
   have hbq := HGq.out.box
   rw [HGv.out] at hbq
   obtain ⟨Wq, hWq⟩ : ∃ X, X = W.drew := ⟨_, rfl⟩
   rw [← hWq] at HGq HKq hbq hwc
   subst hwc
   clear hWq hbx hs3W hsb hfz hrb
   cases go with
   | none =>
    obtain ⟨hv0, hg0⟩ : vals.length = 0 ∧ gc = 0 := by
     rcases HGq.out.own.2 with ⟨h8, h9⟩ | ⟨g8, c8, cur8, h8, _⟩
     ·rw [HGv.out] at h8
      simp only [zZ] at h8
      exact ⟨h9, h8.2.2⟩
     rw [HGv.out] at h8; cases h8
    obtain rfl : r = 0 := by omega
    subst hg0
    obtain rfl := zE hv0
    have HSl : Hid (RdV wc (.slice none 0 0) (([] : List Value).drop 0)) := .inl ⟨rfl, rfl⟩
    gi_wp2_with fail
    refine ⟨trivial, ?_⟩
    refine (CallsIn.inRound l (callsIn_wide.2 (cloneM_any _ (([] : List Value).drop 0) _ HSl.out (fun u hu => (HIf.out u (List.mem_of_mem_drop hu)).one) (by rw [zI]; omega)))).mono ?_
    rintro e w1 ⟨cv, rfl, hoc, hbc⟩
    have HOc := hid hoc
    have HB1 := hid hbc
    clear hoc hbc
    gi_wp2_with fail
    refine ⟨trivial, ?_⟩
    refine (CallsIn.inRound l (callsIn_wide.2 (xEU cv (([] : List Value).drop 0) _ w1 HOc.out (fun u hu => HIf.out u (List.mem_of_mem_drop hu))))).mono ?_
    rintro e w2 ⟨rfl, hor, hgr2⟩
    have HOr := hid hor
    have HB2 : Hid (Below wc.heap.size wc w2) := HB1.out.grown hgr2 HB1.out.size (fun j hj => own_blk HOc.out hj)
    clear hor hgr2
    have HB9 := hid (zS HB2.out (xAF w2))
    have HG9 := hid (HGq.out.later HB9.out)
    have hbx9 := HG9.out.box
    rw [HGv.out] at hbx9
    have HOr9 := hid (xAC HOr.out (xAF w2))
    have hszs : sizes ((growR sig (t.drop (t.length - k))).drop 0).reverse ≤ 4611686018427387904 := by
     have h1 := xBJ ((growR sig (t.drop (t.length - k))).take 0) ((growR sig (t.drop (t.length - k))).drop 0)
     rw [zQ, xAW, zI] at h1
     rw [xBO]
     omega
    have hrw9 := HG9.out.rowb
    have HAp : Hid (Calls Tryz.prog 169 #[cdS b off cap j (t.length - j), cv] w2.drew fun e w' => ∃ bq, e = .returned (.iface 222 (.pointer (some ⟨bq, 0, none⟩))) ∧ w2.drew.heap.size ≤ bq ∧ w'.cell? ⟨bq, 0, none⟩ = some (cdS b off cap j (1 + sizes ((growR sig (t.drop (t.length - k))).drop 0).reverse)) ∧ w'.cell? ⟨bq, 1, none⟩ = some cv ∧ Below w2.drew.heap.size w2.drew w') := by
     have hrev : (([] : List Value).drop 0).reverse.length = (([] : List Value).drop 0).length := yX
     have h1 := xBJ ((growR sig (t.drop (t.length - k))).take 0) ((growR sig (t.drop (t.length - k))).drop 0)
     rw [zQ, xAW, zI] at h1
     have hjt := HJt.out
     have htp := (HG9.out.tv.take (([] : List Value).length - 0)).1
     rw [← xDM ([] : List Value) hrl, HVl.out, ← xDM (growR sig (t.drop (t.length - k))) (by rw [← HVl.out]; exact hrl)] at htp
     exact applyM_any b off cap j (t.length - j) cv (([] : List Value).drop 0).reverse ((growR sig (t.drop (t.length - k))).drop 0).reverse (fun b => w.heap.size + 4 ≤ b ∧ b < w2.drew.heap.size ∧ gv.ownBlock ≠ some b) _ w2.drew (own_rdv (by rw [hrev]; exact HOr9.out)) htp (fun b hb => hb.2.1) (by rw [xBO]; omega) (by omega) (by omega)
    unfold cdS at HAp
    have HPush : Hid (∀ (w3 : World) (bq : Nat), w2.drew.heap.size ≤ bq → w3.cell? ⟨bq, 0, none⟩ = some (.slice (some ⟨b, off + j, none⟩) (1 + sizes ((growR sig (t.drop (t.length - k))).drop 0).reverse) (cap - j)) → w3.cell? ⟨bq, 1, none⟩ = some cv → Below w2.drew.heap.size w2.drew w3 →
      w3.cell? ⟨w.heap.size + 2, 0, none⟩ = some (.slice none 0 0) ∧ ∃ g cp W2, (Builtin.append_ #[223, 223] 223 #[.slice none 0 0, .slice (some ⟨w3.heap.size, 0, none⟩) 1 1]).run Tryz.prog (w3.alloc (.cells #[.iface 222 (.pointer (some ⟨bq, 0, none⟩))] 187)) = .ok (.slice (some ⟨g, 0, none⟩) (0 + 1) cp) W2 ∧
       W2.cell? ⟨w.heap.size + 2, 0, none⟩ = some gv ∧ W2.frozen? ⟨w.heap.size + 2, 0, none⟩ = false ∧ KeepsFrom (w.heap.size + 4) W (W2.setCell ⟨w.heap.size + 2, 0, none⟩ (.slice (some ⟨g, 0, none⟩) (0 + 1) cp)) ∧
       ∃ gv' vals', GM w (W2.setCell ⟨w.heap.size + 2, 0, none⟩ (.slice (some ⟨g, 0, none⟩) (0 + 1) cp)) (cdS b off cap) (.slice (some ⟨sg, soff, none⟩) sig.length sc) (.slice (some ⟨b, off, none⟩) t.length cap) gv' vals' (growR sig (t.drop (t.length - (k + 1)))) (t.length - (k + 1))) := fun w3 bq p1 p2 p3 p4 => by
     have hbx3 := (zK p4).cell _ _ hbx9
     have hnode := HGq.out.node (p' := j) hrl HB9.out (r := 0) HOr9.out p1 p2 p3 p4 HJt.out
     obtain ⟨g, cp, W2, hr2, hb2, hf2, hg2, hk2⟩ := HGq.out.push 223 HGv.out hrl (zS HB9.out p4) hnode (by simp only [Tr.size, xBO]; have := HJt.out; omega) (by omega)
     exact ⟨hbx3, g, cp, W2, hr2, hb2, hf2, HKq.out.trans hk2, _, _, by rw [HSt2.out, HJ.out]; exact hg2⟩
    have hcj : ¬ cap = j := by omega
    have hjc : j ≤ cap := by omega
    have hjt2 : j ≤ t.length := by omega
    have hrc : 0 ≤ 0 := by omega
    clear HOr HOc HB1 HB2
    gi_upto_region 10 with fail
    refine wpIn_region_any mixed ?_
    change wpAnyIn _ _ _ _ _ _ _ _ _ (World.drew _)
    refine xCW (F := Fence.wide) l (by kernel_rfl) _ _ _ _ ?_
    refine wpAnyIn_take (i := 1) (v := .int .i64 0) rfl rfl (by kernel_rfl) (by kernel_rfl) (by kernel_rfl) (fun _ _ _ h => h) ⟨Or.inl ⟨by rfl, ?_⟩, fun _ => rfl⟩ ?_
    ·intro wx
     go_simp
    refine wpAnyIn_take (i := 4) (v := .int .i64 (j : Int)) rfl rfl (by kernel_rfl) (by kernel_rfl) (by kernel_rfl) (fun _ _ _ h => h) ⟨Or.inl ⟨by rfl, ?_⟩, fun _ => rfl⟩ ?_
    ·intro wx
     go_simp
    refine wpAnyIn_take (i := 6) (v := cv) rfl rfl (by kernel_rfl) (by kernel_rfl) (by kernel_rfl) (fun _ _ _ h => h) ⟨Or.inl ⟨by rfl, ?_⟩, fun _ => rfl⟩ ?_
    ·intro wx
     go_simp
    refine wpAnyIn_ready (rs := [0, 3]) (by kernel_rfl) (by simp) ?_
    refine AllReadyIn.cons rfl (fun K hK => ?_) ?_
    ·go_simp
     refine hK _ _ ?_
     clear hK K
     refine wpAnyIn_take (i := 2) (v := .slice none 0 0) rfl rfl (by kernel_rfl) (by kernel_rfl) (by kernel_rfl) (fun _ _ _ h => h) ⟨Or.inl ⟨by rfl, ?_⟩, fun _ => rfl⟩ ?_
     ·intro wx
      go_simp
     refine wpAnyIn_ready (rs := [3]) (by kernel_rfl) (by simp) ?_
     refine AllReadyIn.cons rfl (fun K hK => ?_) ?_
     ·go_simp
      refine hK _ _ ?_
      clear hK K
      refine wpAnyIn_take (i := 5) (v := .slice (some ⟨b, off + j, none⟩) (t.length - j) (cap - j)) rfl rfl (by kernel_rfl) (by kernel_rfl) (by kernel_rfl) (fun _ _ _ h => h) ⟨Or.inl ⟨by rfl, ?_⟩, fun _ => rfl⟩ ?_
      ·intro wx
       go_simp
      refine wpAnyIn_ready (rs := [7]) (by kernel_rfl) (by simp) ?_
      refine AllReadyIn.cons rfl (fun K hK => ?_) ?_
      ·go_simp
       refine ⟨trivial, ?_⟩
       refine (callsIn_wide.2 HAp.out).mono ?_
       rintro e w3 ⟨bq, rfl, p1, p2, p3, p4⟩
       obtain ⟨q1, g, cp, W2, hr2, hb2, hf2, hk2, gv', vals', hg2⟩ := HPush.out w3 bq p1 p2 p3 p4
       have q2 : (w3.alloc (.cells #[.iface 222 (.pointer (some ⟨bq, 0, none⟩))] 187)).cell? ⟨w.heap.size + 2, 0, none⟩ = some (.slice none 0 0) := (zK (zA _)).cell _ _ q1
       have HR2 := hid hr2
       have HK2 := hid hk2
       have HG2 := hid hg2
       clear hr2 hk2 hg2 p2 p3 p4
       refine hK _ _ ?_
       clear hK K
       refine wpAnyIn_ready (rs := [8]) (by kernel_rfl) (by simp) ?_
       refine AllReadyIn.cons rfl (fun K hK => ?_) ?_
       ·go_simp
        refine hK _ _ ?_
        clear hK K
        refine wpAnyIn_ready (rs := [9]) (by kernel_rfl) (by simp) ?_
        refine AllReadyIn.cons rfl (fun K hK => ?_) ?_
        ·rw [if_pos (by rfl)]
         refine xAD _ _ _ rfl _ _ rfl rfl HR2.out ?_
         refine hK _ _ ?_
         clear hK K
         refine wpAnyIn_ready (rs := [10]) (by kernel_rfl) (by simp) ?_
         refine AllReadyIn.cons rfl (fun K hK => ?_) ?_
         ·go_simp
          refine hK _ _ ?_
          clear hK K
          refine wpAnyIn_done (by kernel_rfl) ?_ _
          gi_wp2_with fail
          exact ⟨HK2.out, _, _, HG2.out⟩
         exact AllReadyIn.nil
        exact AllReadyIn.nil
       exact AllReadyIn.nil
      exact AllReadyIn.nil
     exact AllReadyIn.nil
    refine AllReadyIn.cons rfl (fun K hK => ?_) ?_
    ·go_simp
     refine hK _ _ ?_
     clear hK K
     refine wpAnyIn_take (i := 5) (v := .slice (some ⟨b, off + j, none⟩) (t.length - j) (cap - j)) rfl rfl (by kernel_rfl) (by kernel_rfl) (by kernel_rfl) (fun _ _ _ h => h) ⟨Or.inl ⟨by rfl, ?_⟩, fun _ => rfl⟩ ?_
     ·intro wx
      go_simp
     refine wpAnyIn_ready (rs := [0, 7]) (by kernel_rfl) (by simp) ?_
     refine AllReadyIn.cons rfl (fun K hK => ?_) ?_
     ·go_simp
      refine hK _ _ ?_
      clear hK K
      refine wpAnyIn_take (i := 2) (v := .slice none 0 0) rfl rfl (by kernel_rfl) (by kernel_rfl) (by kernel_rfl) (fun _ _ _ h => h) ⟨Or.inl ⟨by rfl, ?_⟩, fun _ => rfl⟩ ?_
      ·intro wx
       go_simp
      refine wpAnyIn_ready (rs := [7]) (by kernel_rfl) (by simp) ?_
      refine AllReadyIn.cons rfl (fun K hK => ?_) ?_
      ·go_simp
       refine ⟨trivial, ?_⟩
       refine (callsIn_wide.2 HAp.out).mono ?_
       rintro e w3 ⟨bq, rfl, p1, p2, p3, p4⟩
       obtain ⟨q1, g, cp, W2, hr2, hb2, hf2, hk2, gv', vals', hg2⟩ := HPush.out w3 bq p1 p2 p3 p4
       have q2 : (w3.alloc (.cells #[.iface 222 (.pointer (some ⟨bq, 0, none⟩))] 187)).cell? ⟨w.heap.size + 2, 0, none⟩ = some (.slice none 0 0) := (zK (zA _)).cell _ _ q1
       have HR2 := hid hr2
       have HK2 := hid hk2
       have HG2 := hid hg2
       clear hr2 hk2 hg2 p2 p3 p4
       refine hK _ _ ?_
       clear hK K
       refine wpAnyIn_ready (rs := [8]) (by kernel_rfl) (by simp) ?_
       refine AllReadyIn.cons rfl (fun K hK => ?_) ?_
       ·go_simp
        refine hK _ _ ?_
        clear hK K
        refine wpAnyIn_ready (rs := [9]) (by kernel_rfl) (by simp) ?_
        refine AllReadyIn.cons rfl (fun K hK => ?_) ?_
        ·rw [if_pos (by rfl)]
         refine xAD _ _ _ rfl _ _ rfl rfl HR2.out ?_
         refine hK _ _ ?_
         clear hK K
         refine wpAnyIn_ready (rs := [10]) (by kernel_rfl) (by simp) ?_
         refine AllReadyIn.cons rfl (fun K hK => ?_) ?_
         ·go_simp
          refine hK _ _ ?_
          clear hK K
          refine wpAnyIn_done (by kernel_rfl) ?_ _
          gi_wp2_with fail
          exact ⟨HK2.out, _, _, HG2.out⟩
         exact AllReadyIn.nil
        exact AllReadyIn.nil
       exact AllReadyIn.nil
      exact AllReadyIn.nil
     refine AllReadyIn.cons rfl (fun K hK => ?_) ?_
     ·go_simp
      refine ⟨trivial, ?_⟩
      refine (callsIn_wide.2 HAp.out).mono ?_
      rintro e w3 ⟨bq, rfl, p1, p2, p3, p4⟩
      obtain ⟨q1, g, cp, W2, hr2, hb2, hf2, hk2, gv', vals', hg2⟩ := HPush.out w3 bq p1 p2 p3 p4
      have q2 : (w3.alloc (.cells #[.iface 222 (.pointer (some ⟨bq, 0, none⟩))] 187)).cell? ⟨w.heap.size + 2, 0, none⟩ = some (.slice none 0 0) := (zK (zA _)).cell _ _ q1
      have HR2 := hid hr2
      have HK2 := hid hk2
      have HG2 := hid hg2
      clear hr2 hk2 hg2 p2 p3 p4
      refine hK _ _ ?_
      clear hK K
      refine wpAnyIn_ready (rs := [0, 8]) (by kernel_rfl) (by simp) ?_
      refine AllReadyIn.cons rfl (fun K hK => ?_) ?_
      ·go_simp
       refine hK _ _ ?_
       clear hK K
       refine wpAnyIn_take (i := 2) (v := .slice none 0 0) rfl rfl (by kernel_rfl) (by kernel_rfl) (by kernel_rfl) (fun _ _ _ h => h) ⟨Or.inl ⟨by rfl, ?_⟩, fun _ => rfl⟩ ?_
       ·intro wx
        go_simp
       refine wpAnyIn_ready (rs := [8]) (by kernel_rfl) (by simp) ?_
       refine AllReadyIn.cons rfl (fun K hK => ?_) ?_
       ·go_simp
        refine hK _ _ ?_
        clear hK K
        refine wpAnyIn_ready (rs := [9]) (by kernel_rfl) (by simp) ?_
        refine AllReadyIn.cons rfl (fun K hK => ?_) ?_
        ·rw [if_pos (by rfl)]
         refine xAD _ _ _ rfl _ _ rfl rfl HR2.out ?_
         refine hK _ _ ?_
         clear hK K
         refine wpAnyIn_ready (rs := [10]) (by kernel_rfl) (by simp) ?_
         refine AllReadyIn.cons rfl (fun K hK => ?_) ?_
         ·go_simp
          refine hK _ _ ?_
          clear hK K
          refine wpAnyIn_done (by kernel_rfl) ?_ _
          gi_wp2_with fail
          exact ⟨HK2.out, _, _, HG2.out⟩
         exact AllReadyIn.nil
        exact AllReadyIn.nil
       exact AllReadyIn.nil
      refine AllReadyIn.cons rfl (fun K hK => ?_) ?_
      ·go_simp
       refine hK _ _ ?_
       clear hK K
       refine wpAnyIn_ready (rs := [0]) (by kernel_rfl) (by simp) ?_
       refine AllReadyIn.cons rfl (fun K hK => ?_) ?_
       ·go_simp
        refine hK _ _ ?_
        clear hK K
        refine wpAnyIn_take (i := 2) (v := .slice none 0 0) rfl rfl (by kernel_rfl) (by kernel_rfl) (by kernel_rfl) (fun _ _ _ h => h) ⟨Or.inl ⟨by rfl, ?_⟩, fun _ => rfl⟩ ?_
        ·intro wx
         go_simp
        refine wpAnyIn_ready (rs := [9]) (by kernel_rfl) (by simp) ?_
        refine AllReadyIn.cons rfl (fun K hK => ?_) ?_
        ·rw [if_pos (by rfl)]
         refine xAD _ _ _ rfl _ _ rfl rfl HR2.out ?_
         refine hK _ _ ?_
         clear hK K
         refine wpAnyIn_ready (rs := [10]) (by kernel_rfl) (by simp) ?_
         refine AllReadyIn.cons rfl (fun K hK => ?_) ?_
         ·go_simp
          refine hK _ _ ?_
          clear hK K
          refine wpAnyIn_done (by kernel_rfl) ?_ _
          gi_wp2_with fail
          exact ⟨HK2.out, _, _, HG2.out⟩
         exact AllReadyIn.nil
        exact AllReadyIn.nil
       exact AllReadyIn.nil
      exact AllReadyIn.nil
     exact AllReadyIn.nil
    exact AllReadyIn.nil
   | some ad =>
    obtain ⟨gb, hgb⟩ : ∃ gb, ad = ⟨gb, 0, none⟩ := by
     rcases HGq.out.own.2 with ⟨h8, h9⟩ | ⟨g8, c8, cur8, h8, _⟩
     ·rw [HGv.out] at h8; cases h8
     rw [HGv.out] at h8
     simp only [zZ, zX] at h8
     exact ⟨g8, h8.1⟩
    subst hgb
    by_cases hgr : gc = r
    ·subst hgr
     have HSl : Hid (RdV wc (.slice (some ⟨gb, 0, none⟩) 0 0) (vals.drop gc)) := by
      refine .inr ⟨gb, 0, 0, by rw [List.drop_eq_nil_of_le hgc1]; rfl, fun j u hj => ?_⟩
      rw [List.drop_eq_nil_of_le hgc1] at hj
      cases hj
     gi_wp2_with fail
     refine ⟨trivial, ?_⟩
     refine (CallsIn.inRound l (callsIn_wide.2 (cloneM_any _ (vals.drop gc) _ HSl.out (fun u hu => (HIf.out u (List.mem_of_mem_drop hu)).one) (by rw [zI]; omega)))).mono ?_
     rintro e w1 ⟨cv, rfl, hoc, hbc⟩
     have HOc := hid hoc
     have HB1 := hid hbc
     clear hoc hbc
     gi_wp2_with fail
     refine ⟨trivial, ?_⟩
     refine (CallsIn.inRound l (callsIn_wide.2 (xEU cv (vals.drop gc) _ w1 HOc.out (fun u hu => HIf.out u (List.mem_of_mem_drop hu))))).mono ?_
     rintro e w2 ⟨rfl, hor, hgr2⟩
     have HOr := hid hor
     have HB2 : Hid (Below wc.heap.size wc w2) := HB1.out.grown hgr2 HB1.out.size (fun j hj => own_blk HOc.out hj)
     clear hor hgr2
     have HB9 := hid (zS HB2.out (xAF w2))
     have HG9 := hid (HGq.out.later HB9.out)
     have hbx9 := HG9.out.box
     rw [HGv.out] at hbx9
     have HOr9 := hid (xAC HOr.out (xAF w2))
     have hszs : sizes ((growR sig (t.drop (t.length - k))).drop gc).reverse ≤ 4611686018427387904 := by
      have h1 := xBJ ((growR sig (t.drop (t.length - k))).take gc) ((growR sig (t.drop (t.length - k))).drop gc)
      rw [zQ, xAW, zI] at h1
      rw [xBO]
      omega
     have hrw9 := HG9.out.rowb
     have HAp : Hid (Calls Tryz.prog 169 #[cdS b off cap j (t.length - j), cv] w2.drew fun e w' => ∃ bq, e = .returned (.iface 222 (.pointer (some ⟨bq, 0, none⟩))) ∧ w2.drew.heap.size ≤ bq ∧ w'.cell? ⟨bq, 0, none⟩ = some (cdS b off cap j (1 + sizes ((growR sig (t.drop (t.length - k))).drop gc).reverse)) ∧ w'.cell? ⟨bq, 1, none⟩ = some cv ∧ Below w2.drew.heap.size w2.drew w') := by
      have hrev : (vals.drop gc).reverse.length = (vals.drop gc).length := yX
      have h1 := xBJ ((growR sig (t.drop (t.length - k))).take gc) ((growR sig (t.drop (t.length - k))).drop gc)
      rw [zQ, xAW, zI] at h1
      have hjt := HJt.out
      have htp := (HG9.out.tv.take (vals.length - gc)).1
      rw [← xDM vals hrl, HVl.out, ← xDM (growR sig (t.drop (t.length - k))) (by rw [← HVl.out]; exact hrl)] at htp
      exact applyM_any b off cap j (t.length - j) cv (vals.drop gc).reverse ((growR sig (t.drop (t.length - k))).drop gc).reverse (fun b => w.heap.size + 4 ≤ b ∧ b < w2.drew.heap.size ∧ gv.ownBlock ≠ some b) _ w2.drew (own_rdv (by rw [hrev]; exact HOr9.out)) htp (fun b hb => hb.2.1) (by rw [xBO]; omega) (by omega) (by omega)
     unfold cdS at HAp
     have HPush : Hid (∀ (w3 : World) (bq : Nat), w2.drew.heap.size ≤ bq → w3.cell? ⟨bq, 0, none⟩ = some (.slice (some ⟨b, off + j, none⟩) (1 + sizes ((growR sig (t.drop (t.length - k))).drop gc).reverse) (cap - j)) → w3.cell? ⟨bq, 1, none⟩ = some cv → Below w2.drew.heap.size w2.drew w3 →
       w3.cell? ⟨w.heap.size + 2, 0, none⟩ = some (.slice (some ⟨gb, 0, none⟩) vals.length gc) ∧ ∃ g cp W2, (Builtin.append_ #[223, 223] 223 #[.slice (some ⟨gb, 0, none⟩) gc gc, .slice (some ⟨w3.heap.size, 0, none⟩) 1 1]).run Tryz.prog (w3.alloc (.cells #[.iface 222 (.pointer (some ⟨bq, 0, none⟩))] 187)) = .ok (.slice (some ⟨g, 0, none⟩) (gc + 1) cp) W2 ∧
        W2.cell? ⟨w.heap.size + 2, 0, none⟩ = some gv ∧ W2.frozen? ⟨w.heap.size + 2, 0, none⟩ = false ∧ KeepsFrom (w.heap.size + 4) W (W2.setCell ⟨w.heap.size + 2, 0, none⟩ (.slice (some ⟨g, 0, none⟩) (gc + 1) cp)) ∧
        ∃ gv' vals', GM w (W2.setCell ⟨w.heap.size + 2, 0, none⟩ (.slice (some ⟨g, 0, none⟩) (gc + 1) cp)) (cdS b off cap) (.slice (some ⟨sg, soff, none⟩) sig.length sc) (.slice (some ⟨b, off, none⟩) t.length cap) gv' vals' (growR sig (t.drop (t.length - (k + 1)))) (t.length - (k + 1))) := fun w3 bq p1 p2 p3 p4 => by
      have hbx3 := (zK p4).cell _ _ hbx9
      have hnode := HGq.out.node (p' := j) hrl HB9.out (r := gc) HOr9.out p1 p2 p3 p4 HJt.out
      obtain ⟨g, cp, W2, hr2, hb2, hf2, hg2, hk2⟩ := HGq.out.push 223 HGv.out hrl (zS HB9.out p4) hnode (by simp only [Tr.size, xBO]; have := HJt.out; omega) (by omega)
      exact ⟨hbx3, g, cp, W2, hr2, hb2, hf2, HKq.out.trans hk2, _, _, by rw [HSt2.out, HJ.out]; exact hg2⟩
     have hcj : ¬ cap = j := by omega
     have hjc : j ≤ cap := by omega
     have hjt2 : j ≤ t.length := by omega
     have hrc : gc ≤ gc := by omega
     clear HOr HOc HB1 HB2
     gi_upto_region 10 with fail
     refine wpIn_region_any mixed ?_
     change wpAnyIn _ _ _ _ _ _ _ _ _ (World.drew _)
     refine xCW (F := Fence.wide) l (by kernel_rfl) _ _ _ _ ?_
     refine wpAnyIn_take (i := 1) (v := .int .i64 (gc : Int)) rfl rfl (by kernel_rfl) (by kernel_rfl) (by kernel_rfl) (fun _ _ _ h => h) ⟨Or.inl ⟨by rfl, ?_⟩, fun _ => rfl⟩ ?_
     ·intro wx
      go_simp
     refine wpAnyIn_take (i := 4) (v := .int .i64 (j : Int)) rfl rfl (by kernel_rfl) (by kernel_rfl) (by kernel_rfl) (fun _ _ _ h => h) ⟨Or.inl ⟨by rfl, ?_⟩, fun _ => rfl⟩ ?_
     ·intro wx
      go_simp
     refine wpAnyIn_take (i := 6) (v := cv) rfl rfl (by kernel_rfl) (by kernel_rfl) (by kernel_rfl) (fun _ _ _ h => h) ⟨Or.inl ⟨by rfl, ?_⟩, fun _ => rfl⟩ ?_
     ·intro wx
      go_simp
     refine wpAnyIn_ready (rs := [0, 3]) (by kernel_rfl) (by simp) ?_
     refine AllReadyIn.cons rfl (fun K hK => ?_) ?_
     ·go_simp
      refine hK _ _ ?_
      clear hK K
      refine wpAnyIn_take (i := 2) (v := .slice (some ⟨gb, 0, none⟩) gc gc) rfl rfl (by kernel_rfl) (by kernel_rfl) (by kernel_rfl) (fun _ _ _ h => h) ⟨Or.inl ⟨by rfl, ?_⟩, fun _ => rfl⟩ ?_
      ·intro wx
       go_simp
      refine wpAnyIn_ready (rs := [3]) (by kernel_rfl) (by simp) ?_
      refine AllReadyIn.cons rfl (fun K hK => ?_) ?_
      ·go_simp
       refine hK _ _ ?_
       clear hK K
       refine wpAnyIn_take (i := 5) (v := .slice (some ⟨b, off + j, none⟩) (t.length - j) (cap - j)) rfl rfl (by kernel_rfl) (by kernel_rfl) (by kernel_rfl) (fun _ _ _ h => h) ⟨Or.inl ⟨by rfl, ?_⟩, fun _ => rfl⟩ ?_
       ·intro wx
        go_simp
       refine wpAnyIn_ready (rs := [7]) (by kernel_rfl) (by simp) ?_
       refine AllReadyIn.cons rfl (fun K hK => ?_) ?_
       ·go_simp
        refine ⟨trivial, ?_⟩
        refine (callsIn_wide.2 HAp.out).mono ?_
        rintro e w3 ⟨bq, rfl, p1, p2, p3, p4⟩
        obtain ⟨q1, g, cp, W2, hr2, hb2, hf2, hk2, gv', vals', hg2⟩ := HPush.out w3 bq p1 p2 p3 p4
        have q2 : (w3.alloc (.cells #[.iface 222 (.pointer (some ⟨bq, 0, none⟩))] 187)).cell? ⟨w.heap.size + 2, 0, none⟩ = some (.slice (some ⟨gb, 0, none⟩) vals.length gc) := (zK (zA _)).cell _ _ q1
        have HR2 := hid hr2
        have HK2 := hid hk2
        have HG2 := hid hg2
        clear hr2 hk2 hg2 p2 p3 p4
        refine hK _ _ ?_
        clear hK K
        refine wpAnyIn_ready (rs := [8]) (by kernel_rfl) (by simp) ?_
        refine AllReadyIn.cons rfl (fun K hK => ?_) ?_
        ·go_simp
         refine hK _ _ ?_
         clear hK K
         refine wpAnyIn_ready (rs := [9]) (by kernel_rfl) (by simp) ?_
         refine AllReadyIn.cons rfl (fun K hK => ?_) ?_
         ·rw [if_pos (by rfl)]
          refine xAD _ _ _ rfl _ _ rfl rfl HR2.out ?_
          refine hK _ _ ?_
          clear hK K
          refine wpAnyIn_ready (rs := [10]) (by kernel_rfl) (by simp) ?_
          refine AllReadyIn.cons rfl (fun K hK => ?_) ?_
          ·go_simp
           refine hK _ _ ?_
           clear hK K
           refine wpAnyIn_done (by kernel_rfl) ?_ _
           gi_wp2_with fail
           exact ⟨HK2.out, _, _, HG2.out⟩
          exact AllReadyIn.nil
         exact AllReadyIn.nil
        exact AllReadyIn.nil
       exact AllReadyIn.nil
      exact AllReadyIn.nil
     refine AllReadyIn.cons rfl (fun K hK => ?_) ?_
     ·go_simp
      refine hK _ _ ?_
      clear hK K
      refine wpAnyIn_take (i := 5) (v := .slice (some ⟨b, off + j, none⟩) (t.length - j) (cap - j)) rfl rfl (by kernel_rfl) (by kernel_rfl) (by kernel_rfl) (fun _ _ _ h => h) ⟨Or.inl ⟨by rfl, ?_⟩, fun _ => rfl⟩ ?_
      ·intro wx
       go_simp
      refine wpAnyIn_ready (rs := [0, 7]) (by kernel_rfl) (by simp) ?_
      refine AllReadyIn.cons rfl (fun K hK => ?_) ?_
      ·go_simp
       refine hK _ _ ?_
       clear hK K
       refine wpAnyIn_take (i := 2) (v := .slice (some ⟨gb, 0, none⟩) gc gc) rfl rfl (by kernel_rfl) (by kernel_rfl) (by kernel_rfl) (fun _ _ _ h => h) ⟨Or.inl ⟨by rfl, ?_⟩, fun _ => rfl⟩ ?_
       ·intro wx
        go_simp
       refine wpAnyIn_ready (rs := [7]) (by kernel_rfl) (by simp) ?_
       refine AllReadyIn.cons rfl (fun K hK => ?_) ?_
       ·go_simp
        refine ⟨trivial, ?_⟩
        refine (callsIn_wide.2 HAp.out).mono ?_
        rintro e w3 ⟨bq, rfl, p1, p2, p3, p4⟩
        obtain ⟨q1, g, cp, W2, hr2, hb2, hf2, hk2, gv', vals', hg2⟩ := HPush.out w3 bq p1 p2 p3 p4
        have q2 : (w3.alloc (.cells #[.iface 222 (.pointer (some ⟨bq, 0, none⟩))] 187)).cell? ⟨w.heap.size + 2, 0, none⟩ = some (.slice (some ⟨gb, 0, none⟩) vals.length gc) := (zK (zA _)).cell _ _ q1
        have HR2 := hid hr2
        have HK2 := hid hk2
        have HG2 := hid hg2
        clear hr2 hk2 hg2 p2 p3 p4
        refine hK _ _ ?_
        clear hK K
        refine wpAnyIn_ready (rs := [8]) (by kernel_rfl) (by simp) ?_
        refine AllReadyIn.cons rfl (fun K hK => ?_) ?_
        ·go_simp
         refine hK _ _ ?_
         clear hK K
         refine wpAnyIn_ready (rs := [9]) (by kernel_rfl) (by simp) ?_
         refine AllReadyIn.cons rfl (fun K hK => ?_) ?_
         ·rw [if_pos (by rfl)]
          refine xAD _ _ _ rfl _ _ rfl rfl HR2.out ?_
          refine hK _ _ ?_
          clear hK K
          refine wpAnyIn_ready (rs := [10]) (by kernel_rfl) (by simp) ?_
          refine AllReadyIn.cons rfl (fun K hK => ?_) ?_
          ·go_simp
           refine hK _ _ ?_
           clear hK K
           refine wpAnyIn_done (by kernel_rfl) ?_ _
           gi_wp2_with fail
           exact ⟨HK2.out, _, _, HG2.out⟩
          exact AllReadyIn.nil
         exact AllReadyIn.nil
        exact AllReadyIn.nil
       exact AllReadyIn.nil
      refine AllReadyIn.cons rfl (fun K hK => ?_) ?_
      ·go_simp
       refine ⟨trivial, ?_⟩
       refine (callsIn_wide.2 HAp.out).mono ?_
       rintro e w3 ⟨bq, rfl, p1, p2, p3, p4⟩
       obtain ⟨q1, g, cp, W2, hr2, hb2, hf2, hk2, gv', vals', hg2⟩ := HPush.out w3 bq p1 p2 p3 p4
       have q2 : (w3.alloc (.cells #[.iface 222 (.pointer (some ⟨bq, 0, none⟩))] 187)).cell? ⟨w.heap.size + 2, 0, none⟩ = some (.slice (some ⟨gb, 0, none⟩) vals.length gc) := (zK (zA _)).cell _ _ q1
       have HR2 := hid hr2
       have HK2 := hid hk2
       have HG2 := hid hg2
       clear hr2 hk2 hg2 p2 p3 p4
       refine hK _ _ ?_
       clear hK K
       refine wpAnyIn_ready (rs := [0, 8]) (by kernel_rfl) (by simp) ?_
       refine AllReadyIn.cons rfl (fun K hK => ?_) ?_
       ·go_simp
        refine hK _ _ ?_
        clear hK K
        refine wpAnyIn_take (i := 2) (v := .slice (some ⟨gb, 0, none⟩) gc gc) rfl rfl (by kernel_rfl) (by kernel_rfl) (by kernel_rfl) (fun _ _ _ h => h) ⟨Or.inl ⟨by rfl, ?_⟩, fun _ => rfl⟩ ?_
        ·intro wx
         go_simp
        refine wpAnyIn_ready (rs := [8]) (by kernel_rfl) (by simp) ?_
        refine AllReadyIn.cons rfl (fun K hK => ?_) ?_
        ·go_simp
         refine hK _ _ ?_
         clear hK K
         refine wpAnyIn_ready (rs := [9]) (by kernel_rfl) (by simp) ?_
         refine AllReadyIn.cons rfl (fun K hK => ?_) ?_
         ·rw [if_pos (by rfl)]
          refine xAD _ _ _ rfl _ _ rfl rfl HR2.out ?_
          refine hK _ _ ?_
          clear hK K
          refine wpAnyIn_ready (rs := [10]) (by kernel_rfl) (by simp) ?_
          refine AllReadyIn.cons rfl (fun K hK => ?_) ?_
          ·go_simp
           refine hK _ _ ?_
           clear hK K
           refine wpAnyIn_done (by kernel_rfl) ?_ _
           gi_wp2_with fail
           exact ⟨HK2.out, _, _, HG2.out⟩
          exact AllReadyIn.nil
         exact AllReadyIn.nil
        exact AllReadyIn.nil
       refine AllReadyIn.cons rfl (fun K hK => ?_) ?_
       ·go_simp
        refine hK _ _ ?_
        clear hK K
        refine wpAnyIn_ready (rs := [0]) (by kernel_rfl) (by simp) ?_
        refine AllReadyIn.cons rfl (fun K hK => ?_) ?_
        ·go_simp
         refine hK _ _ ?_
         clear hK K
         refine wpAnyIn_take (i := 2) (v := .slice (some ⟨gb, 0, none⟩) gc gc) rfl rfl (by kernel_rfl) (by kernel_rfl) (by kernel_rfl) (fun _ _ _ h => h) ⟨Or.inl ⟨by rfl, ?_⟩, fun _ => rfl⟩ ?_
         ·intro wx
          go_simp
         refine wpAnyIn_ready (rs := [9]) (by kernel_rfl) (by simp) ?_
         refine AllReadyIn.cons rfl (fun K hK => ?_) ?_
         ·rw [if_pos (by rfl)]
          refine xAD _ _ _ rfl _ _ rfl rfl HR2.out ?_
          refine hK _ _ ?_
          clear hK K
          refine wpAnyIn_ready (rs := [10]) (by kernel_rfl) (by simp) ?_
          refine AllReadyIn.cons rfl (fun K hK => ?_) ?_
          ·go_simp
           refine hK _ _ ?_
           clear hK K
           refine wpAnyIn_done (by kernel_rfl) ?_ _
           gi_wp2_with fail
           exact ⟨HK2.out, _, _, HG2.out⟩
          exact AllReadyIn.nil
         exact AllReadyIn.nil
        exact AllReadyIn.nil
       exact AllReadyIn.nil
      exact AllReadyIn.nil
     exact AllReadyIn.nil
    have HSl : Hid (RdV wc (.slice (some ⟨gb, r, none⟩) (vals.length - r) (gc - r)) (vals.drop r)) := by
     refine .inr ⟨gb, r, gc - r, by rw [zI], fun j u hj => ?_⟩
     rw [List.getElem?_drop] at hj
     have h9 := HGq.out.own
     rw [HGv.out] at h9
     rw [World.ownsRow.cellAt h9 (r + j) (by have := (zB.1 hj).1; omega)]
     exact hj
    gi_wp2_with fail
    refine ⟨trivial, ?_⟩
    refine (CallsIn.inRound l (callsIn_wide.2 (cloneM_any _ (vals.drop r) _ HSl.out (fun u hu => (HIf.out u (List.mem_of_mem_drop hu)).one) (by rw [zI]; omega)))).mono ?_
    rintro e w1 ⟨cv, rfl, hoc, hbc⟩
    have HOc := hid hoc
    have HB1 := hid hbc
    clear hoc hbc
    gi_wp2_with fail
    refine ⟨trivial, ?_⟩
    refine (CallsIn.inRound l (callsIn_wide.2 (xEU cv (vals.drop r) _ w1 HOc.out (fun u hu => HIf.out u (List.mem_of_mem_drop hu))))).mono ?_
    rintro e w2 ⟨rfl, hor, hgr2⟩
    have HOr := hid hor
    have HB2 : Hid (Below wc.heap.size wc w2) := HB1.out.grown hgr2 HB1.out.size (fun j hj => own_blk HOc.out hj)
    clear hor hgr2
    have HB9 := hid (zS HB2.out (xAF w2))
    have HG9 := hid (HGq.out.later HB9.out)
    have hbx9 := HG9.out.box
    rw [HGv.out] at hbx9
    have HOr9 := hid (xAC HOr.out (xAF w2))
    have hszs : sizes ((growR sig (t.drop (t.length - k))).drop r).reverse ≤ 4611686018427387904 := by
     have h1 := xBJ ((growR sig (t.drop (t.length - k))).take r) ((growR sig (t.drop (t.length - k))).drop r)
     rw [zQ, xAW, zI] at h1
     rw [xBO]
     omega
    have hrw9 := HG9.out.rowb
    have HAp : Hid (Calls Tryz.prog 169 #[cdS b off cap j (t.length - j), cv] w2.drew fun e w' => ∃ bq, e = .returned (.iface 222 (.pointer (some ⟨bq, 0, none⟩))) ∧ w2.drew.heap.size ≤ bq ∧ w'.cell? ⟨bq, 0, none⟩ = some (cdS b off cap j (1 + sizes ((growR sig (t.drop (t.length - k))).drop r).reverse)) ∧ w'.cell? ⟨bq, 1, none⟩ = some cv ∧ Below w2.drew.heap.size w2.drew w') := by
     have hrev : (vals.drop r).reverse.length = (vals.drop r).length := yX
     have h1 := xBJ ((growR sig (t.drop (t.length - k))).take r) ((growR sig (t.drop (t.length - k))).drop r)
     rw [zQ, xAW, zI] at h1
     have hjt := HJt.out
     have htp := (HG9.out.tv.take (vals.length - r)).1
     rw [← xDM vals hrl, HVl.out, ← xDM (growR sig (t.drop (t.length - k))) (by rw [← HVl.out]; exact hrl)] at htp
     exact applyM_any b off cap j (t.length - j) cv (vals.drop r).reverse ((growR sig (t.drop (t.length - k))).drop r).reverse (fun b => w.heap.size + 4 ≤ b ∧ b < w2.drew.heap.size ∧ gv.ownBlock ≠ some b) _ w2.drew (own_rdv (by rw [hrev]; exact HOr9.out)) htp (fun b hb => hb.2.1) (by rw [xBO]; omega) (by omega) (by omega)
    unfold cdS at HAp
    have HPush : Hid (∀ (w3 : World) (bq : Nat), w2.drew.heap.size ≤ bq → w3.cell? ⟨bq, 0, none⟩ = some (.slice (some ⟨b, off + j, none⟩) (1 + sizes ((growR sig (t.drop (t.length - k))).drop r).reverse) (cap - j)) → w3.cell? ⟨bq, 1, none⟩ = some cv → Below w2.drew.heap.size w2.drew w3 →
      w3.cell? ⟨w.heap.size + 2, 0, none⟩ = some (.slice (some ⟨gb, 0, none⟩) vals.length gc) ∧ ∃ g cp W2, (Builtin.append_ #[223, 223] 223 #[.slice (some ⟨gb, 0, none⟩) r gc, .slice (some ⟨w3.heap.size, 0, none⟩) 1 1]).run Tryz.prog (w3.alloc (.cells #[.iface 222 (.pointer (some ⟨bq, 0, none⟩))] 187)) = .ok (.slice (some ⟨g, 0, none⟩) (r + 1) cp) W2 ∧
       W2.cell? ⟨w.heap.size + 2, 0, none⟩ = some gv ∧ W2.frozen? ⟨w.heap.size + 2, 0, none⟩ = false ∧ KeepsFrom (w.heap.size + 4) W (W2.setCell ⟨w.heap.size + 2, 0, none⟩ (.slice (some ⟨g, 0, none⟩) (r + 1) cp)) ∧
       ∃ gv' vals', GM w (W2.setCell ⟨w.heap.size + 2, 0, none⟩ (.slice (some ⟨g, 0, none⟩) (r + 1) cp)) (cdS b off cap) (.slice (some ⟨sg, soff, none⟩) sig.length sc) (.slice (some ⟨b, off, none⟩) t.length cap) gv' vals' (growR sig (t.drop (t.length - (k + 1)))) (t.length - (k + 1))) := fun w3 bq p1 p2 p3 p4 => by
     have hbx3 := (zK p4).cell _ _ hbx9
     have hnode := HGq.out.node (p' := j) hrl HB9.out (r := r) HOr9.out p1 p2 p3 p4 HJt.out
     obtain ⟨g, cp, W2, hr2, hb2, hf2, hg2, hk2⟩ := HGq.out.push 223 HGv.out hrl (zS HB9.out p4) hnode (by simp only [Tr.size, xBO]; have := HJt.out; omega) (by omega)
     exact ⟨hbx3, g, cp, W2, hr2, hb2, hf2, HKq.out.trans hk2, _, _, by rw [HSt2.out, HJ.out]; exact hg2⟩
    have hcj : ¬ cap = j := by omega
    have hjc : j ≤ cap := by omega
    have hjt2 : j ≤ t.length := by omega
    have hrc : r ≤ gc := by omega
    clear HOr HOc HB1 HB2
    gi_upto_region 10 with fail
    refine wpIn_region_any mixed ?_
    change wpAnyIn _ _ _ _ _ _ _ _ _ (World.drew _)
    refine xCW (F := Fence.wide) l (by kernel_rfl) _ _ _ _ ?_
    refine wpAnyIn_take (i := 1) (v := .int .i64 (r : Int)) rfl rfl (by kernel_rfl) (by kernel_rfl) (by kernel_rfl) (fun _ _ _ h => h) ⟨Or.inl ⟨by rfl, ?_⟩, fun _ => rfl⟩ ?_
    ·intro wx
     go_simp
    refine wpAnyIn_take (i := 4) (v := .int .i64 (j : Int)) rfl rfl (by kernel_rfl) (by kernel_rfl) (by kernel_rfl) (fun _ _ _ h => h) ⟨Or.inl ⟨by rfl, ?_⟩, fun _ => rfl⟩ ?_
    ·intro wx
     go_simp
    refine wpAnyIn_take (i := 6) (v := cv) rfl rfl (by kernel_rfl) (by kernel_rfl) (by kernel_rfl) (fun _ _ _ h => h) ⟨Or.inl ⟨by rfl, ?_⟩, fun _ => rfl⟩ ?_
    ·intro wx
     go_simp
    refine wpAnyIn_ready (rs := [0, 3]) (by kernel_rfl) (by simp) ?_
    refine AllReadyIn.cons rfl (fun K hK => ?_) ?_
    ·go_simp
     refine hK _ _ ?_
     clear hK K
     refine wpAnyIn_take (i := 2) (v := .slice (some ⟨gb, 0, none⟩) r gc) rfl rfl (by kernel_rfl) (by kernel_rfl) (by kernel_rfl) (fun _ _ _ h => h) ⟨Or.inl ⟨by rfl, ?_⟩, fun _ => rfl⟩ ?_
     ·intro wx
      go_simp
     refine wpAnyIn_ready (rs := [3]) (by kernel_rfl) (by simp) ?_
     refine AllReadyIn.cons rfl (fun K hK => ?_) ?_
     ·go_simp
      refine hK _ _ ?_
      clear hK K
      refine wpAnyIn_take (i := 5) (v := .slice (some ⟨b, off + j, none⟩) (t.length - j) (cap - j)) rfl rfl (by kernel_rfl) (by kernel_rfl) (by kernel_rfl) (fun _ _ _ h => h) ⟨Or.inl ⟨by rfl, ?_⟩, fun _ => rfl⟩ ?_
      ·intro wx
       go_simp
      refine wpAnyIn_ready (rs := [7]) (by kernel_rfl) (by simp) ?_
      refine AllReadyIn.cons rfl (fun K hK => ?_) ?_
      ·go_simp
       refine ⟨trivial, ?_⟩
       refine (callsIn_wide.2 HAp.out).mono ?_
       rintro e w3 ⟨bq, rfl, p1, p2, p3, p4⟩
       obtain ⟨q1, g, cp, W2, hr2, hb2, hf2, hk2, gv', vals', hg2⟩ := HPush.out w3 bq p1 p2 p3 p4
       have q2 : (w3.alloc (.cells #[.iface 222 (.pointer (some ⟨bq, 0, none⟩))] 187)).cell? ⟨w.heap.size + 2, 0, none⟩ = some (.slice (some ⟨gb, 0, none⟩) vals.length gc) := (zK (zA _)).cell _ _ q1
       have HR2 := hid hr2
       have HK2 := hid hk2
       have HG2 := hid hg2
       clear hr2 hk2 hg2 p2 p3 p4
       refine hK _ _ ?_
       clear hK K
       refine wpAnyIn_ready (rs := [8]) (by kernel_rfl) (by simp) ?_
       refine AllReadyIn.cons rfl (fun K hK => ?_) ?_
       ·go_simp
        refine hK _ _ ?_
        clear hK K
        refine wpAnyIn_ready (rs := [9]) (by kernel_rfl) (by simp) ?_
        refine AllReadyIn.cons rfl (fun K hK => ?_) ?_
        ·rw [if_pos (by rfl)]
         refine xAD _ _ _ rfl _ _ rfl rfl HR2.out ?_
         refine hK _ _ ?_
         clear hK K
         refine wpAnyIn_ready (rs := [10]) (by kernel_rfl) (by simp) ?_
         refine AllReadyIn.cons rfl (fun K hK => ?_) ?_
         ·go_simp
          refine hK _ _ ?_
          clear hK K
          refine wpAnyIn_done (by kernel_rfl) ?_ _
          gi_wp2_with fail
          exact ⟨HK2.out, _, _, HG2.out⟩
         exact AllReadyIn.nil
        exact AllReadyIn.nil
       exact AllReadyIn.nil
      exact AllReadyIn.nil
     exact AllReadyIn.nil
    refine AllReadyIn.cons rfl (fun K hK => ?_) ?_
    ·go_simp
     refine hK _ _ ?_
     clear hK K
     refine wpAnyIn_take (i := 5) (v := .slice (some ⟨b, off + j, none⟩) (t.length - j) (cap - j)) rfl rfl (by kernel_rfl) (by kernel_rfl) (by kernel_rfl) (fun _ _ _ h => h) ⟨Or.inl ⟨by rfl, ?_⟩, fun _ => rfl⟩ ?_
     ·intro wx
      go_simp
     refine wpAnyIn_ready (rs := [0, 7]) (by kernel_rfl) (by simp) ?_
     refine AllReadyIn.cons rfl (fun K hK => ?_) ?_
     ·go_simp
      refine hK _ _ ?_
      clear hK K
      refine wpAnyIn_take (i := 2) (v := .slice (some ⟨gb, 0, none⟩) r gc) rfl rfl (by kernel_rfl) (by kernel_rfl) (by kernel_rfl) (fun _ _ _ h => h) ⟨Or.inl ⟨by rfl, ?_⟩, fun _ => rfl⟩ ?_
      ·intro wx
       go_simp
      refine wpAnyIn_ready (rs := [7]) (by kernel_rfl) (by simp) ?_
      refine AllReadyIn.cons rfl (fun K hK => ?_) ?_
      ·go_simp
       refine ⟨trivial, ?_⟩
       refine (callsIn_wide.2 HAp.out).mono ?_
       rintro e w3 ⟨bq, rfl, p1, p2, p3, p4⟩
       obtain ⟨q1, g, cp, W2, hr2, hb2, hf2, hk2, gv', vals', hg2⟩ := HPush.out w3 bq p1 p2 p3 p4
       have q2 : (w3.alloc (.cells #[.iface 222 (.pointer (some ⟨bq, 0, none⟩))] 187)).cell? ⟨w.heap.size + 2, 0, none⟩ = some (.slice (some ⟨gb, 0, none⟩) vals.length gc) := (zK (zA _)).cell _ _ q1
       have HR2 := hid hr2
       have HK2 := hid hk2
       have HG2 := hid hg2
       clear hr2 hk2 hg2 p2 p3 p4
       refine hK _ _ ?_
       clear hK K
       refine wpAnyIn_ready (rs := [8]) (by kernel_rfl) (by simp) ?_
       refine AllReadyIn.cons rfl (fun K hK => ?_) ?_
       ·go_simp
        refine hK _ _ ?_
        clear hK K
        refine wpAnyIn_ready (rs := [9]) (by kernel_rfl) (by simp) ?_
        refine AllReadyIn.cons rfl (fun K hK => ?_) ?_
        ·rw [if_pos (by rfl)]
         refine xAD _ _ _ rfl _ _ rfl rfl HR2.out ?_
         refine hK _ _ ?_
         clear hK K
         refine wpAnyIn_ready (rs := [10]) (by kernel_rfl) (by simp) ?_
         refine AllReadyIn.cons rfl (fun K hK => ?_) ?_
         ·go_simp
          refine hK _ _ ?_
          clear hK K
          refine wpAnyIn_done (by kernel_rfl) ?_ _
          gi_wp2_with fail
          exact ⟨HK2.out, _, _, HG2.out⟩
         exact AllReadyIn.nil
        exact AllReadyIn.nil
       exact AllReadyIn.nil
      exact AllReadyIn.nil
     refine AllReadyIn.cons rfl (fun K hK => ?_) ?_
     ·go_simp
      refine ⟨trivial, ?_⟩
      refine (callsIn_wide.2 HAp.out).mono ?_
      rintro e w3 ⟨bq, rfl, p1, p2, p3, p4⟩
      obtain ⟨q1, g, cp, W2, hr2, hb2, hf2, hk2, gv', vals', hg2⟩ := HPush.out w3 bq p1 p2 p3 p4
      have q2 : (w3.alloc (.cells #[.iface 222 (.pointer (some ⟨bq, 0, none⟩))] 187)).cell? ⟨w.heap.size + 2, 0, none⟩ = some (.slice (some ⟨gb, 0, none⟩) vals.length gc) := (zK (zA _)).cell _ _ q1
      have HR2 := hid hr2
      have HK2 := hid hk2
      have HG2 := hid hg2
      clear hr2 hk2 hg2 p2 p3 p4
      refine hK _ _ ?_
      clear hK K
      refine wpAnyIn_ready (rs := [0, 8]) (by kernel_rfl) (by simp) ?_
      refine AllReadyIn.cons rfl (fun K hK => ?_) ?_
      ·go_simp
       refine hK _ _ ?_
       clear hK K
       refine wpAnyIn_take (i := 2) (v := .slice (some ⟨gb, 0, none⟩) r gc) rfl rfl (by kernel_rfl) (by kernel_rfl) (by kernel_rfl) (fun _ _ _ h => h) ⟨Or.inl ⟨by rfl, ?_⟩, fun _ => rfl⟩ ?_
       ·intro wx
        go_simp
       refine wpAnyIn_ready (rs := [8]) (by kernel_rfl) (by simp) ?_
       refine AllReadyIn.cons rfl (fun K hK => ?_) ?_
       ·go_simp
        refine hK _ _ ?_
        clear hK K
        refine wpAnyIn_ready (rs := [9]) (by kernel_rfl) (by simp) ?_
        refine AllReadyIn.cons rfl (fun K hK => ?_) ?_
        ·rw [if_pos (by rfl)]
         refine xAD _ _ _ rfl _ _ rfl rfl HR2.out ?_
         refine hK _ _ ?_
         clear hK K
         refine wpAnyIn_ready (rs := [10]) (by kernel_rfl) (by simp) ?_
         refine AllReadyIn.cons rfl (fun K hK => ?_) ?_
         ·go_simp
          refine hK _ _ ?_
          clear hK K
          refine wpAnyIn_done (by kernel_rfl) ?_ _
          gi_wp2_with fail
          exact ⟨HK2.out, _, _, HG2.out⟩
         exact AllReadyIn.nil
        exact AllReadyIn.nil
       exact AllReadyIn.nil
      refine AllReadyIn.cons rfl (fun K hK => ?_) ?_
      ·go_simp
       refine hK _ _ ?_
       clear hK K
       refine wpAnyIn_ready (rs := [0]) (by kernel_rfl) (by simp) ?_
       refine AllReadyIn.cons rfl (fun K hK => ?_) ?_
       ·go_simp
        refine hK _ _ ?_
        clear hK K
        refine wpAnyIn_take (i := 2) (v := .slice (some ⟨gb, 0, none⟩) r gc) rfl rfl (by kernel_rfl) (by kernel_rfl) (by kernel_rfl) (fun _ _ _ h => h) ⟨Or.inl ⟨by rfl, ?_⟩, fun _ => rfl⟩ ?_
        ·intro wx
         go_simp
        refine wpAnyIn_ready (rs := [9]) (by kernel_rfl) (by simp) ?_
        refine AllReadyIn.cons rfl (fun K hK => ?_) ?_
        ·rw [if_pos (by rfl)]
         refine xAD _ _ _ rfl _ _ rfl rfl HR2.out ?_
         refine hK _ _ ?_
         clear hK K
         refine wpAnyIn_ready (rs := [10]) (by kernel_rfl) (by simp) ?_
         refine AllReadyIn.cons rfl (fun K hK => ?_) ?_
         ·go_simp
          refine hK _ _ ?_
          clear hK K
          refine wpAnyIn_done (by kernel_rfl) ?_ _
          gi_wp2_with fail
          exact ⟨HK2.out, _, _, HG2.out⟩
         exact AllReadyIn.nil
        exact AllReadyIn.nil
       exact AllReadyIn.nil
      exact AllReadyIn.nil
     exact AllReadyIn.nil
    exact AllReadyIn.nil
 case done =>
  rintro D W hD ⟨gv, vals, hg⟩ hdf
  obtain ⟨T, hT, _⟩ := xFJ HA.out HR.out
  rw [show t.length - t.length = 0 by omega, List.drop_zero, hT] at hg
  obtain ⟨u, hvs⟩ : ∃ u, vals = [u] := by
   have h1 := hg.tv.len
   rw [yX] at h1
   match vals, h1 with
   | [u], _ => exact ⟨u, rfl⟩
  subst hvs
  obtain ⟨gb, gc, hgv, hgc⟩ : ∃ gb gc, gv = .slice (some ⟨gb, 0, none⟩) 1 gc ∧ 1 ≤ gc := by
   rcases hg.own.2 with ⟨_, h9⟩ | ⟨g8, c8, cur8, h8, _, _, h9, _⟩
   ·cases h9
   exact ⟨g8, c8, h8, h9⟩
  have hbx := hg.box
  rw [hgv] at hbx
  have hown := hg.own
  rw [hgv] at hown
  have hcell := World.ownsRow.cellAt hown 0 (by simp)
  simp only [yQ] at hcell
  have HG := hid hg
  have HT := hid hT
  clear hown hg hT
  gi_wp2_with fail
  refine ⟨by simp, .inl ⟨_, _, rfl, run_takeDeferred hdf, ?_⟩⟩
  have hgp := HG.out.put (o' := .deferred none) (by simpa using hD) hdf rfl
  exact ⟨_, results_tmp rfl _ _ _, u, T, _, rfl, HT.out, hgp.tv.1, fun b hb => ⟨by omega, hb.2.1⟩, hgp.bel⟩
end Go.Proofs.YtdjmjhlbjcgoiaaGreatDoor
