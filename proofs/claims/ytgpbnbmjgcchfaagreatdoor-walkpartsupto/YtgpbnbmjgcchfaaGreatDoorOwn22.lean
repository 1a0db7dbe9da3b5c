/- Texts of the proof, one behind the other. -/
import Derived.Test.YtgpbnbmjgcchfaaGreatDoorOwn21
import Derived.WalkMore
import Derived.ScopeJumps
/- Walk of package walk walked. -/
namespace Go.Proofs.YtgpbnbmjgcchfaaGreatDoor
open Go.RowKit Go.Maps Go.BigFrame

/-- What holds at the label: the block K has the walk as far as it goes. -/
def WSt (sig : List Sy) (rs : List Rl) (t : List Int) (n : Nat) (w0 : World) (K : Nat) (S : List Rx) (u : List Int) (Sv Uv : Value) (W : World) : Prop :=
  Below w0.heap.size w0 W ∧ w0.heap.size ≤ K ∧ W.heap[K]? = some (.cells #[Sv, Uv, .bool false] 47) ∧ OX W (K + 1) Sv S ∧ OwI W w0.heap.size Uv u ∧ Uv.ownBlock ≠ some K ∧ u.length ≤ 512 ∧ stepE sig rs u = 0 ∧ S.length ≤ n ∧ goW sig rs n t = (goW sig rs (n - S.length) u).map fun r => (S ++ r.1, r.2)

/-- How many steps are in memory. -/
def lenCell : Option Value → Nat
  | some (.slice _ l _) => l
  | _ => 0

def lenAt (a : Act) (w : World) : Nat := match a.tmps.getD 9 undef with | .pointer (some ad) => lenCell (w.cell? ad) | _ => 0

theorem set_below {B : Nat} {a w : World} (h : Below B a w) {g : Nat} (hg : B ≤ g) (i : Nat) (v : Value) : Below B a (w.setCell ⟨g, i, none⟩ v) := h.setCell (p := ⟨g, i, none⟩) hg v

theorem OX.setO {w : World} {base : Nat} {v : Value} {d : List Rx} (h : OX w base v d) {g : Nat} (hg : g < base) (i : Nat) (x : Value) : OX (w.setCell ⟨g, i, none⟩ x) base v d :=
  h.kept (set_grown w g i x) (by
    cases hv : v.ownBlock with
    | none => exact .inl rfl
    | some j => exact .inr fun e => by have := own_blk h.2 hv; cases e; omega)

theorem OwI.setO {w : World} {base : Nat} {v : Value} {d : List Int} (h : OwI w base v d) {g : Nat} (hg : v.ownBlock ≠ some g) (i : Nat) (x : Value) : OwI (w.setCell ⟨g, i, none⟩ x) base v d :=
  h.kept (set_grown w g i x) (.inr hg)

theorem heap_alloc_oldW {w : World} {o x : Obj} {k : Nat} (h : w.heap[k]? = some x) : (w.alloc o).heap[k]? = some x := by
  rw [heap_alloc_old _ _ (Array.getElem?_eq_some_iff.1 h).1]
  exact h

theorem bnds_first {sig : List Sy} {rs : List Rl} {t : List Int} {p k : Int} (he : stepE sig rs t = 0) (hl : t.length ≤ 512) (h : fsO sig rs t = some (p, k)) : (-9223372036854775808 ≤ p ∧ p ≤ 9223372036854775807) ∧ -9223372036854775808 ≤ k ∧ k ≤ 9223372036854775807 := by
  obtain ⟨x, y, j, r, f, e, hv, hr, _⟩ := fsO_some he h
  simp only [Prod.mk.injEq] at e
  obtain ⟨rfl, rfl⟩ := e
  have h1 := hv.1
  have h2 := hv.2.1
  simp only at h1 h2
  have h3 := (List.getElem?_eq_some_iff.1 hr).1
  have h4 := (ahead_parts (sys_right (stepE_zero he).1).1).2.2.2
  exact ⟨⟨by omega, by omega⟩, by omega, by omega⟩

set_option maxRecDepth 100000 in
set_option maxHeartbeats 6400000 in
theorem walkBad_any (sv rv tv : Value) (sig : List Sy) (rs : List Rl) (t : List Int) (m e : Int) (w : World) (hs : Sg w sv sig) (hr : RU w rv rs) (ht : Is w tv t) (hT : Tabs w) (htl : t.length ≤ 1048576)
    (h : (¬ stepE sig rs t = 0 ∧ e = stepE sig rs t) ∨ (stepE sig rs t = 0 ∧ m < 0 ∧ e = 1) ∨ (stepE sig rs t = 0 ∧ ¬ m < 0 ∧ 4096 < m ∧ e = 1) ∨ (stepE sig rs t = 0 ∧ ¬ m < 0 ∧ ¬ 4096 < m ∧ 512 < t.length ∧ e = 2)) :
    Calls Tryz.prog 20 #[.agg #[sv, rv], tv, .int .i64 m] w fun e' w' => e' = .returned (.tuple #[.agg #[.slice none 0 0, .slice none 0 0, .bool false], .int .i64 e]) ∧ Below w.heap.size w w' := by
  obtain ⟨so, sc, rfl, hso, hsc, _⟩ := Row.flat hs
  obtain ⟨ro, rc, rfl, hro, hrc, _⟩ := Row.flat hr
  obtain ⟨to2, tc, rfl, hto, htc, _⟩ := ht.flatI
  have HS := hid hs
  have HR := hid hr
  have HTt := hid ht
  have HT := hid hT
  clear hs hr ht hT
  obtain ⟨w0, hw0⟩ : ∃ X, X = (w.alloc (.cells #[.slice so sig.length sc, .slice ro rs.length rc] 25)).alloc (.cells #[.slice none 0 0, .slice none 0 0, .bool false] 47) := ⟨_, rfl⟩
  have C0 : Hid (Below w.heap.size w w0) := by rw [hw0]; exact below_step (below_alloc _) (below_alloc _)
  have HB0 : Hid (w0.heap[w.heap.size + 1]? = some (.cells #[.slice none 0 0, .slice none 0 0, .bool false] 47)) := by
    have e9 := heap_alloc_new (w.alloc (.cells #[.slice so sig.length sc, .slice ro rs.length rc] 25)) (.cells #[.slice none 0 0, .slice none 0 0, .bool false] 47)
    rw [World.size_alloc, ← hw0] at e9
    exact e9
  have x0 : w0.cell? ⟨w.heap.size, 0, none⟩ = some (.slice so sig.length sc) := by rw [hw0]; exact cell_old (cell_new rfl)
  have x1 : w0.cell? ⟨w.heap.size, 1, none⟩ = some (.slice ro rs.length rc) := by rw [hw0]; exact cell_old (cell_new rfl)
  have HCk := hid (wcheck_any _ _ _ sig rs t w0 (HS.out.kp (Kp.of_below C0.out)) (HR.out.kp (Kp.of_below C0.out)) (HTt.out.kp (Kp.of_below C0.out)) (HT.out.below C0.out) htl)
  obtain ⟨E, hE⟩ : ∃ E, E = stepE sig rs t := ⟨_, rfl⟩
  rw [← hE] at HCk h
  clear hE
  go_enter Tryz.func20, Tryz.ntmps20
  go_wp2
  rw [← hw0]
  clear hw0
  go_step3
  go_wp2_with fail
  refine HCk.out.mono ?_
  rintro e9 w1 ⟨rfl, hb1⟩
  have C1 := hid (below_step C0.out hb1)
  have hr1 : w1.heap[w.heap.size + 1]? = some (.cells #[.slice none 0 0, .slice none 0 0, .bool false] 47) := by
    have h9 := ((grown_of_below hb1 none).block _ (Array.getElem?_eq_some_iff.1 HB0.out).1 (by simp)).trans HB0.out
    exact h9
  have f0 : w1.frozen? ⟨w.heap.size + 1, 0, none⟩ = false := frozen_of_row _ _ _ _ _ hr1
  have f1 : w1.frozen? ⟨w.heap.size + 1, 1, none⟩ = false := frozen_of_row _ _ _ _ _ hr1
  have f2 : w1.frozen? ⟨w.heap.size + 1, 2, none⟩ = false := frozen_of_row _ _ _ _ _ hr1
  have p0 := cell_of_row _ _ 0 _ _ _ hr1
  have p1 := cell_of_row _ _ 1 _ _ _ hr1
  have p2 := cell_of_row _ _ 2 _ _ _ hr1
  simp only [List.getElem?_toArray, List.getElem?_cons_zero, List.getElem?_cons_succ] at p0 p1 p2
  obtain ⟨Z, hZ⟩ : ∃ Z, Z = ((w1.setCell ⟨w.heap.size + 1, 0, none⟩ (.slice none 0 0)).setCell ⟨w.heap.size + 1, 1, none⟩ (.slice none 0 0)).setCell ⟨w.heap.size + 1, 2, none⟩ (.bool false) := ⟨_, rfl⟩
  have HBz : Hid (Below w.heap.size w Z) := by
    rw [hZ]
    exact set_below (set_below (set_below C1.out (by omega) _ _) (by omega) _ _) (by omega) _ _
  have hz : Z.heap[w.heap.size + 1]? = some (.cells #[.slice none 0 0, .slice none 0 0, .bool false] 47) := by
    rw [hZ]
    exact heap_setCell_same _ _ _ _ _ _ (heap_setCell_same _ _ _ _ _ _ (heap_setCell_same _ _ _ _ _ _ hr1))
  have z0 := cell_of_row _ _ 0 _ _ _ hz
  have z1 := cell_of_row _ _ 1 _ _ _ hz
  have z2 := cell_of_row _ _ 2 _ _ _ hz
  simp only [List.getElem?_toArray, List.getElem?_cons_zero, List.getElem?_cons_succ] at z0 z1 z2
  clear hz hr1 hb1 x0 x1
  rcases h with ⟨h1, rfl⟩ | ⟨h1, h2, rfl⟩ | ⟨h1, h2, h3, rfl⟩ | ⟨h1, h2, h3, h4, rfl⟩
  · have hne : (e != 0) = true := by rw [bne_iff_ne]; exact h1
    go_wp2
    rw [← hZ]
    clear hZ p0 p1 p2 f0 f1 f2
    (try simp only [Exit.noGoto])
    refine bodyPost_ret (results_cell8 (t := 6) (u := 7) (ty := 47) (ad := ⟨w.heap.size + 1, 0, none⟩) (v := .agg #[.slice none 0 0, .slice none 0 0, .bool false]) rfl rfl (by go_simp)) rfl ?_
    exact ⟨rfl, HBz.out⟩
  · rw [h1]
    have hd : decide (m < 0) = true := by simpa using h2
    go_wp2
    rw [← hZ]
    clear hZ p0 p1 p2 f0 f1 f2
    (try simp only [Exit.noGoto])
    refine bodyPost_ret (results_cell8 (t := 6) (u := 7) (ty := 47) (ad := ⟨w.heap.size + 1, 0, none⟩) (v := .agg #[.slice none 0 0, .slice none 0 0, .bool false]) rfl rfl (by go_simp)) rfl ?_
    exact ⟨rfl, HBz.out⟩
  · rw [h1]
    have hd : decide (m < 0) = false := by simpa using h2
    have hd2 : decide (m > 4096) = true := by simpa using h3
    go_wp2
    rw [← hZ]
    clear hZ p0 p1 p2 f0 f1 f2
    (try simp only [Exit.noGoto])
    refine bodyPost_ret (results_cell8 (t := 6) (u := 7) (ty := 47) (ad := ⟨w.heap.size + 1, 0, none⟩) (v := .agg #[.slice none 0 0, .slice none 0 0, .bool false]) rfl rfl (by go_simp)) rfl ?_
    exact ⟨rfl, HBz.out⟩
  · rw [h1]
    have hd : decide (m < 0) = false := by simpa using h2
    have hd2 : decide (m > 4096) = false := by simpa using h3
    have hd3 : decide ((t.length : Int) > 512) = true := decide_eq_true (by omega)
    have hd3b : decide (512 < t.length) = true := decide_eq_true (by omega)
    go_wp2
    rw [← hZ]
    clear hZ p0 p1 p2 f0 f1 f2
    (try simp only [Exit.noGoto])
    refine bodyPost_ret (results_cell8 (t := 6) (u := 7) (ty := 47) (ad := ⟨w.heap.size + 1, 0, none⟩) (v := .agg #[.slice none 0 0, .slice none 0 0, .bool false]) rfl rfl (by go_simp)) rfl ?_
    exact ⟨rfl, HBz.out⟩

set_option maxRecDepth 100000 in
set_option maxHeartbeats 12800000 in
theorem walkGood_any (sv rv tv : Value) (sig : List Sy) (rs : List Rl) (t : List Int) (n : Nat) (w : World) (hs : Sg w sv sig) (hr : RU w rv rs) (ht : Is w tv t) (hT : Tabs w) (htl : t.length ≤ 512) (he : stepE sig rs t = 0) (hn : n ≤ 4096) {R : (List Rx × List Int × Bool) × Int} (hR : R = match goW sig rs n t with | some r => (r, 0) | none => (([], [], false), 2)) :
    Calls Tryz.prog 20 #[.agg #[sv, rv], tv, .int .i64 (n : Int)] w fun e w' => ∃ Sv Ev, e = .returned (.tuple #[.agg #[Sv, Ev, .bool R.1.2.2], .int .i64 R.2]) ∧ Xs w' Sv R.1.1 ∧ RxOk R.1.1 ∧ Is w' Ev R.1.2.1 ∧ Below w.heap.size w w' := by
  obtain ⟨so, sc, rfl, hso, hsc, _⟩ := Row.flat hs
  obtain ⟨ro, rc, rfl, hro, hrc, _⟩ := Row.flat hr
  obtain ⟨to2, tc, rfl, hto, htc, _⟩ := ht.flatI
  have HS := hid hs
  have HR := hid hr
  have HTt := hid ht
  have HT := hid hT
  have HE := hid he
  have HRr := hid hR
  clear hs hr ht hT he hR
  obtain ⟨w0, hw0⟩ : ∃ X, X = (w.alloc (.cells #[.slice so sig.length sc, .slice ro rs.length rc] 25)).alloc (.cells #[.slice none 0 0, .slice none 0 0, .bool false] 47) := ⟨_, rfl⟩
  have C0 : Hid (Below w.heap.size w w0) := by rw [hw0]; exact below_step (below_alloc _) (below_alloc _)
  have hsz0 : w0.heap.size = w.heap.size + 2 := by rw [hw0]; simp
  have HB0 : Hid (∀ W, Below w0.heap.size w0 W → W.heap[w.heap.size + 1]? = some (.cells #[.slice none 0 0, .slice none 0 0, .bool false] 47)) := fun W hW => by
    have e9 := heap_alloc_new (w.alloc (.cells #[.slice so sig.length sc, .slice ro rs.length rc] 25)) (.cells #[.slice none 0 0, .slice none 0 0, .bool false] 47)
    rw [World.size_alloc, ← hw0] at e9
    exact ((grown_of_below hW none).block _ (Array.getElem?_eq_some_iff.1 e9).1 (by simp)).trans e9
  have HC : Hid (∀ W, Below w0.heap.size w0 W → W.cell? ⟨w.heap.size, 0, none⟩ = some (.slice so sig.length sc) ∧ W.cell? ⟨w.heap.size, 1, none⟩ = some (.slice ro rs.length rc)) := fun W hW => by
    have hk := Kp.of_below hW
    rw [hw0] at hk
    exact ⟨hk.cell _ _ (cell_old (cell_new rfl)), hk.cell _ _ (cell_old (cell_new rfl))⟩
  have HSz := hid hsz0
  obtain ⟨x0, x1⟩ := HC.out w0 (Below.refl _ _)
  have HCk := hid (wcheck_any _ _ _ sig rs t w0 (HS.out.kp (Kp.of_below C0.out)) (HR.out.kp (Kp.of_below C0.out)) (HTt.out.kp (Kp.of_below C0.out)) (HT.out.below C0.out) (by omega))
  rw [HE.out] at HCk
  clear hsz0
  go_enter Tryz.func20, Tryz.ntmps20
  go_wp2
  rw [← hw0]
  clear hw0
  refine wp_scope_jumps 0 (fun a' wx => ∃ (K : Nat) (S : List Rx) (u : List Int) (Sv Uv : Value) (u10v u11v u12v u13v u14v u15v u16v u17v u18v u19v u20v u21v u22v u23v u24v u25v u26v u27v u28v u29v u30v u31v u32v u33v u34v u35v u36v u37v u38v u39v u40v u41v u42v u43v u44v u45v u46v u47v u48v u49v u50v u51v u52v u53v u54v u55v u56v u57v u58v u59v u60v u61v u62v u63v u64v u65v u66v u67v u68v u69v u70v u71v u72v u73v u74v : Value), a' = { tmps := #[.agg #[.slice so sig.length sc, .slice ro rs.length rc], .slice to2 t.length tc, .int .i64 (n : Int), .pointer (some ⟨w.heap.size, 0, none⟩), undef, undef, .pointer (some ⟨w.heap.size + 1, 0, none⟩), .int .i64 0, .int .i64 0, .pointer (some ⟨K, 0, none⟩), u10v, u11v, u12v, u13v, u14v, u15v, u16v, u17v, u18v, u19v, u20v, u21v, u22v, u23v, u24v, u25v, u26v, u27v, u28v, u29v, u30v, u31v, u32v, u33v, u34v, u35v, u36v, u37v, u38v, u39v, u40v, u41v, u42v, u43v, u44v, u45v, u46v, u47v, u48v, u49v, u50v, u51v, u52v, u53v, u54v, u55v, u56v, u57v, u58v, u59v, u60v, u61v, u62v, u63v, u64v, u65v, u66v, u67v, u68v, u69v, u70v, u71v, u72v, u73v, u74v], defers := [] } ∧ WSt sig rs t n w0 K S u Sv Uv wx) (fun a' wx => n - lenAt a' wx) rfl ?_ ?_
  · go_wp2_with fail
    refine HCk.out.mono ?_
    rintro e w1 ⟨rfl, hb1⟩
    have D1 := hid hb1
    clear hb1 x0 x1 HCk
    have hd : decide ((n : Int) < 0) = false := by simp
    have hd2 : decide ((n : Int) > 4096) = false := by simpa using (show ¬ (n : Int) > 4096 by omega)
    have hd2b : decide (4096 < n) = false := by simpa using (show ¬ 4096 < n by omega)
    have hd3 : decide ((t.length : Int) > 512) = false := by simpa using (show ¬ (t.length : Int) > 512 by omega)
    have hd3b : decide (512 < t.length) = false := by simpa using (show ¬ 512 < t.length by omega)
    have h0 : 0 < t.length := right_len (term_parts (stepE_zero HE.out).2).2
    have HCn := hid (cloneI_any _ t w1 (HTt.out.kp (Kp.of_below (below_step C0.out D1.out))) h0 (by omega))
    go_wp2_with fail
    refine HCn.out.mono ?_
    rintro e w2 ⟨v2, rfl, o2, hb2⟩
    obtain ⟨uo2, uc2, hv2, _⟩ := o2.shape
    subst hv2
    obtain ⟨u, hu⟩ : ∃ u, u = t := ⟨_, rfl⟩
    have hst : WSt sig rs t n w0 w2.heap.size [] u (.slice none 0 0) (.slice uo2 t.length uc2) (w2.alloc (.cells #[.slice none 0 0, .slice uo2 t.length uc2, .bool false] 47)) := by
      have h2 := below_step D1.out hb2
      refine ⟨below_step h2 (below_alloc _), h2.size, heap_alloc_new _ _, ⟨fun y hy => (by cases hy), World.ownsRow_nil _ _ _ _⟩, ?_, fun h9 => ?_, by rw [hu]; exact htl, by rw [hu]; exact HE.out, Nat.zero_le _, ?_⟩
      · rw [hu]
        exact (o2.mono D1.out.size).later (below_alloc _)
      · have := own_blk_lt o2.2 h9
        omega
      · rw [hu]
        simp
    obtain ⟨Sv, hSv⟩ : ∃ Sv, Sv = Value.slice none 0 0 := ⟨_, rfl⟩
    obtain ⟨S, hS⟩ : ∃ S : List Rx, S = [] := ⟨_, rfl⟩
    obtain ⟨Uv, hUv⟩ : ∃ Uv, Uv = Value.slice uo2 t.length uc2 := ⟨_, rfl⟩
    obtain ⟨K, hK⟩ : ∃ K, K = w2.heap.size := ⟨_, rfl⟩
    obtain ⟨wr, hwr⟩ : ∃ X, X = w2.alloc (.cells #[.slice none 0 0, .slice uo2 t.length uc2, .bool false] 47) := ⟨_, rfl⟩
    rw [← hwr] at hst
    clear o2 hb2 HCn h0 hd hd2 hd2b hd3 hd3b
    go_wp2
    go_step3
    rw [← hwr, ← hK]
    rw [← hK, ← hS, ← hSv, ← hUv] at hst
    clear hwr hK hS hSv hUv hu
    obtain ⟨hb, hKl, hblk, hox, how, hne, hul, hste, hsl, hgo⟩ := hst
    have Dr := hid hb
    have Cr := hid (below_step C0.out hb)
    have HBk := hid hblk
    have HOx := hid hox
    have HOw := hid how
    have HNe := hid hne
    have HSt := hid hste
    have HGo := hid hgo
    have HKs : K < wr.heap.size := (Array.getElem?_eq_some_iff.1 hblk).1
    obtain ⟨x0, x1⟩ := HC.out wr hb
    have k0 := cell_of_row _ _ 0 _ _ _ hblk
    have k1 := cell_of_row _ _ 1 _ _ _ hblk
    simp only [List.getElem?_toArray, List.getElem?_cons_zero, List.getElem?_cons_succ] at k0 k1
    have HK0 := hid k0
    have HF := hid (first_any2 _ _ _ sig rs u wr (HS.out.kp (Kp.of_below Cr.out)) (HR.out.kp (Kp.of_below Cr.out)) HOw.out.is (HT.out.below Cr.out) (by omega) HSt.out)
    obtain ⟨so9, sc9, hsv, hsc1, hsc2⟩ := hox.shape
    unfold maxLen at hsc2
    subst hsv
    obtain ⟨uo9, uc9, huv, _⟩ := how.shape
    subst huv
    clear hb hblk hox how hne hste hgo
    go_wp2_with fail
    refine HF.out.mono ?_
    rintro e wf ⟨p, k, rfl, hz, hbf⟩
    have HZ := hid hz
    obtain ⟨W3, hW3⟩ : ∃ X, X = wf.alloc (.cells #[.int .i64 p, .int .i64 k] 32) := ⟨_, rfl⟩
    have J3 : Hid (Below wr.heap.size wr W3) := by rw [hW3]; exact below_step hbf (below_alloc _)
    have D3 := hid (below_step Dr.out J3.out)
    have C3 := hid (below_step Cr.out J3.out)
    have HB3 : Hid (W3.heap[K]? = some (.cells #[.slice so9 S.length sc9, (.slice uo9 u.length uc9), .bool false] 47)) := ((grown_of_below J3.out none).block _ HKs (by simp)).trans HBk.out
    have hr3 := HB0.out W3 D3.out
    have HO3 := hid (HOx.out.later J3.out)
    have HU3 := hid (HOw.out.later J3.out)
    have y0 : W3.cell? ⟨wf.heap.size, 0, none⟩ = some (.int .i64 p) := by rw [hW3]; exact cell_new rfl
    have y1 : W3.cell? ⟨wf.heap.size, 1, none⟩ = some (.int .i64 k) := by rw [hW3]; exact cell_new rfl
    have k0 := cell_of_row _ _ 0 _ _ _ HB3.out
    have k1 := cell_of_row _ _ 1 _ _ _ HB3.out
    have k2 := cell_of_row _ _ 2 _ _ _ HB3.out
    simp only [List.getElem?_toArray, List.getElem?_cons_zero, List.getElem?_cons_succ] at k0 k1 k2
    have fk2 : W3.frozen? ⟨K, 2, none⟩ = false := frozen_of_row _ _ _ _ _ HB3.out
    clear hz hbf x0 x1 HF HOx HOw
    go_upto_region 10 with fail
    rw [← hW3]
    clear hW3
    cases hfs : fsO sig rs u with
    | none =>
      rw [Option.isSome_none]
      go_upto_region 11 with fail
      obtain ⟨W4, hW4⟩ : ∃ X, X = W3.setCell ⟨K, 2, none⟩ (.bool true) := ⟨_, rfl⟩
      have C4 : Hid (Below w.heap.size w W4) := by rw [hW4]; exact set_below C3.out (by have := C0.out.size; omega) _ _
      have hB4 : W4.heap[K]? = some (.cells #[.slice so9 S.length sc9, (.slice uo9 u.length uc9), .bool true] 47) := by rw [hW4]; exact heap_setCell_same _ _ _ _ _ _ HB3.out
      have hr4 : W4.heap[w.heap.size + 1]? = some (.cells #[.slice none 0 0, .slice none 0 0, .bool false] 47) := by
        rw [hW4]
        exact ((set_grown W3 K 2 (.bool true)).block _ (Array.getElem?_eq_some_iff.1 hr3).1 (fun h9 => by cases h9; have := HSz.out; omega)).trans hr3
      have HO4 : Hid (OX W4 (K + 1) (.slice so9 S.length sc9) S) := by rw [hW4]; exact HO3.out.setO (by omega) _ _
      have HU4 : Hid (OwI W4 w0.heap.size (.slice uo9 u.length uc9) u) := by rw [hW4]; exact HU3.out.setO HNe.out _ _
      have k0 := cell_of_row _ _ 0 _ _ _ hB4
      have k1 := cell_of_row _ _ 1 _ _ _ hB4
      have k2n := cell_of_row _ _ 2 _ _ _ hB4
      have p0 := cell_of_row _ _ 0 _ _ _ hr4
      have p1 := cell_of_row _ _ 1 _ _ _ hr4
      have p2 := cell_of_row _ _ 2 _ _ _ hr4
      simp only [List.getElem?_toArray, List.getElem?_cons_zero, List.getElem?_cons_succ] at k0 k1 k2n p0 p1 p2
      have f0 : W4.frozen? ⟨w.heap.size + 1, 0, none⟩ = false := frozen_of_row _ _ _ _ _ hr4
      have f1 : W4.frozen? ⟨w.heap.size + 1, 1, none⟩ = false := frozen_of_row _ _ _ _ _ hr4
      have f2 : W4.frozen? ⟨w.heap.size + 1, 2, none⟩ = false := frozen_of_row _ _ _ _ _ hr4
      go_upto_region 12 with fail
      rw [← hW4]
      clear hW4 k2 fk2 y0 y1
      obtain ⟨Z, hZ⟩ : ∃ Z, Z = ((W4.setCell ⟨w.heap.size + 1, 0, none⟩ (.slice so9 S.length sc9)).setCell ⟨w.heap.size + 1, 1, none⟩ (.slice uo9 u.length uc9)).setCell ⟨w.heap.size + 1, 2, none⟩ (.bool true) := ⟨_, rfl⟩
      have HBz : Hid (Below w.heap.size w Z) := by
        rw [hZ]
        exact set_below (set_below (set_below C4.out (by omega) _ _) (by omega) _ _) (by omega) _ _
      have hnr : Value.ownBlock (.slice uo9 u.length uc9) ≠ some (w.heap.size + 1) := fun h9 => by have := own_blk HU4.out.2 h9; have := HSz.out; omega
      have HOZ : Hid (OX Z (K + 1) (.slice so9 S.length sc9) S) := by
        have := HSz.out
        rw [hZ]
        exact ((HO4.out.setO (by omega) _ _).setO (by omega) _ _).setO (by omega) _ _
      have HUZ : Hid (OwI Z w0.heap.size (.slice uo9 u.length uc9) u) := by
        rw [hZ]
        exact ((HU4.out.setO hnr _ _).setO hnr _ _).setO hnr _ _
      have hz9 : Z.heap[w.heap.size + 1]? = some (.cells #[.slice so9 S.length sc9, (.slice uo9 u.length uc9), .bool true] 47) := by
        rw [hZ]
        exact heap_setCell_same _ _ _ _ _ _ (heap_setCell_same _ _ _ _ _ _ (heap_setCell_same _ _ _ _ _ _ hr4))
      have z0 := cell_of_row _ _ 0 _ _ _ hz9
      have z1 := cell_of_row _ _ 1 _ _ _ hz9
      have z2 := cell_of_row _ _ 2 _ _ _ hz9
      simp only [List.getElem?_toArray, List.getElem?_cons_zero, List.getElem?_cons_succ] at z0 z1 z2
      have HRe : Hid (R = ((S, u, true), 0)) := by
        have h9 := HGo.out
        rw [go_none _ hfs] at h9
        show _ = _
        rw [HRr.out, h9]
        simp
      clear hz9 hr4 hB4 hnr
      go_wp2
      rw [← hZ]
      clear hZ k0 k1 k2n p0 p1 p2 f0 f1 f2
      (try simp only [Exit.jump])
      refine bodyPost_ret (results_cell8 (t := 6) (u := 7) (ty := 47) (ad := ⟨w.heap.size + 1, 0, none⟩) (v := .agg #[.slice so9 S.length sc9, (.slice uo9 u.length uc9), .bool true]) rfl rfl (by go_simp)) rfl ?_
      exact walk_done HRe.out HOZ.out.xs HOZ.out.1 HUZ.out.is HBz.out
    | some z =>
      rw [Option.isSome_some]
      have hzp := HZ.out z hfs
      subst hzp
      by_cases hsn : S.length = n
      · have hq : ((S.length : Int) == (n : Int)) = true := by rw [hsn]; simp
        have HSn := hid hsn
        clear hsn
        go_upto_region 11 with fail
        obtain ⟨W4, hW4⟩ : ∃ X, X = W3.setCell ⟨K, 2, none⟩ (.bool false) := ⟨_, rfl⟩
        have C4 : Hid (Below w.heap.size w W4) := by rw [hW4]; exact set_below C3.out (by have := C0.out.size; omega) _ _
        have hB4 : W4.heap[K]? = some (.cells #[.slice so9 S.length sc9, (.slice uo9 u.length uc9), .bool false] 47) := by rw [hW4]; exact heap_setCell_same _ _ _ _ _ _ HB3.out
        have hr4 : W4.heap[w.heap.size + 1]? = some (.cells #[.slice none 0 0, .slice none 0 0, .bool false] 47) := by
          rw [hW4]
          exact ((set_grown W3 K 2 (.bool false)).block _ (Array.getElem?_eq_some_iff.1 hr3).1 (fun h9 => by cases h9; have := HSz.out; omega)).trans hr3
        have HO4 : Hid (OX W4 (K + 1) (.slice so9 S.length sc9) S) := by rw [hW4]; exact HO3.out.setO (by omega) _ _
        have HU4 : Hid (OwI W4 w0.heap.size (.slice uo9 u.length uc9) u) := by rw [hW4]; exact HU3.out.setO HNe.out _ _
        have k0 := cell_of_row _ _ 0 _ _ _ hB4
        have k1 := cell_of_row _ _ 1 _ _ _ hB4
        have k2n := cell_of_row _ _ 2 _ _ _ hB4
        have p0 := cell_of_row _ _ 0 _ _ _ hr4
        have p1 := cell_of_row _ _ 1 _ _ _ hr4
        have p2 := cell_of_row _ _ 2 _ _ _ hr4
        simp only [List.getElem?_toArray, List.getElem?_cons_zero, List.getElem?_cons_succ] at k0 k1 k2n p0 p1 p2
        have f0 : W4.frozen? ⟨w.heap.size + 1, 0, none⟩ = false := frozen_of_row _ _ _ _ _ hr4
        have f1 : W4.frozen? ⟨w.heap.size + 1, 1, none⟩ = false := frozen_of_row _ _ _ _ _ hr4
        have f2 : W4.frozen? ⟨w.heap.size + 1, 2, none⟩ = false := frozen_of_row _ _ _ _ _ hr4
        go_upto_region 12 with fail
        rw [← hW4]
        clear hW4 k2 fk2 y0 y1
        obtain ⟨Z, hZ⟩ : ∃ Z, Z = ((W4.setCell ⟨w.heap.size + 1, 0, none⟩ (.slice so9 S.length sc9)).setCell ⟨w.heap.size + 1, 1, none⟩ (.slice uo9 u.length uc9)).setCell ⟨w.heap.size + 1, 2, none⟩ (.bool false) := ⟨_, rfl⟩
        have HBz : Hid (Below w.heap.size w Z) := by
          rw [hZ]
          exact set_below (set_below (set_below C4.out (by omega) _ _) (by omega) _ _) (by omega) _ _
        have hnr : Value.ownBlock (.slice uo9 u.length uc9) ≠ some (w.heap.size + 1) := fun h9 => by have := own_blk HU4.out.2 h9; have := HSz.out; omega
        have HOZ : Hid (OX Z (K + 1) (.slice so9 S.length sc9) S) := by
          have := HSz.out
          rw [hZ]
          exact ((HO4.out.setO (by omega) _ _).setO (by omega) _ _).setO (by omega) _ _
        have HUZ : Hid (OwI Z w0.heap.size (.slice uo9 u.length uc9) u) := by
          rw [hZ]
          exact ((HU4.out.setO hnr _ _).setO hnr _ _).setO hnr _ _
        have hz9 : Z.heap[w.heap.size + 1]? = some (.cells #[.slice so9 S.length sc9, (.slice uo9 u.length uc9), .bool false] 47) := by
          rw [hZ]
          exact heap_setCell_same _ _ _ _ _ _ (heap_setCell_same _ _ _ _ _ _ (heap_setCell_same _ _ _ _ _ _ hr4))
        have z0 := cell_of_row _ _ 0 _ _ _ hz9
        have z1 := cell_of_row _ _ 1 _ _ _ hz9
        have z2 := cell_of_row _ _ 2 _ _ _ hz9
        simp only [List.getElem?_toArray, List.getElem?_cons_zero, List.getElem?_cons_succ] at z0 z1 z2
        have HRe : Hid (R = ((S, u, false), 0)) := by
          have h9 := HGo.out
          rw [HSn.out, Nat.sub_self, goW, hfs] at h9
          show _ = _
          rw [HRr.out, h9]
          simp
        clear hz9 hr4 hB4 hnr
        go_wp2
        rw [← hZ]
        clear hZ k0 k1 k2n p0 p1 p2 f0 f1 f2
        (try simp only [Exit.jump])
        refine bodyPost_ret (results_cell8 (t := 6) (u := 7) (ty := 47) (ad := ⟨w.heap.size + 1, 0, none⟩) (v := .agg #[.slice so9 S.length sc9, (.slice uo9 u.length uc9), .bool false]) rfl rfl (by go_simp)) rfl ?_
        exact walk_done HRe.out HOZ.out.xs HOZ.out.1 HUZ.out.is HBz.out
      · have hq : ((S.length : Int) == (n : Int)) = false := by rw [beq_eq_false_iff_ne]; omega
        obtain ⟨d, hd⟩ : ∃ d, n - S.length = d + 1 := ⟨n - S.length - 1, by omega⟩
        rw [hd] at HGo
        obtain ⟨x0, x1⟩ := HC.out W3 D3.out
        have hbd := bnds_first HSt.out hul hfs
        have HCl := hid (do_any _ _ _ sig rs u p k W3 (HS.out.kp (Kp.of_below C3.out)) (HR.out.kp (Kp.of_below C3.out)) HU3.out.is (HT.out.below C3.out) (by omega) hbd.1.1 hbd.1.2 hbd.2.1 hbd.2.2)
        have HBd := hid hbd
        have HFs := hid hfs
        have HYc := hid (do_first HSt.out hfs)
        obtain ⟨Y, hY⟩ : ∃ Y, Y = doR sig rs u p k := ⟨_, rfl⟩
        have HYe := hid hY
        simp only at HYc
        rw [← hY] at HCl HYc
        clear hY hbd hfs fk2
        go_wp2_with fail
        refine HCl.out.mono ?_
        rintro e w5 ⟨v5, rfl, o5, hb5⟩
        have D5 := hid (below_step D3.out hb5)
        have C5 := hid (below_step C3.out hb5)
        have HO5 := hid o5
        have HOS := hid (HO3.out.later hb5)
        have HB5 : Hid (w5.heap[K]? = some (.cells #[.slice so9 S.length sc9, (.slice uo9 u.length uc9), .bool false] 47)) := ((grown_of_below hb5 none).block _ (Array.getElem?_eq_some_iff.1 HB3.out).1 (by simp)).trans HB3.out
        have y0 := (Kp.of_below hb5).cell _ _ y0
        have y1 := (Kp.of_below hb5).cell _ _ y1
        have HS35 := hid hb5.size
        have HK3 : K < W3.heap.size := (Array.getElem?_eq_some_iff.1 HB3.out).1
        have HOl : Hid (∀ j, Value.ownBlock (.slice so9 S.length sc9) = some j → j < W3.heap.size) := fun j hj => own_blk_lt HO3.out.2 hj
        clear o5 hb5 x0 x1 HCl k0 k1 k2
        rcases HYc.out with ⟨a0, a1, a2⟩ | a0
        · rw [a0]
          have k0 := cell_of_row _ _ 0 _ _ _ HB5.out
          have k1 := cell_of_row _ _ 1 _ _ _ HB5.out
          have k2 := cell_of_row _ _ 2 _ _ _ HB5.out
          simp only [List.getElem?_toArray, List.getElem?_cons_zero, List.getElem?_cons_succ] at k0 k1 k2
          obtain ⟨v6, w6, hr6, o6, g6⟩ := OX.join 29 (x := (p, k)) HOS.out (by have := HS35.out; omega) HBd.out (by omega)
          have HR6 := hid hr6
          have hB6 : w6.heap[K]? = some (.cells #[.slice so9 S.length sc9, (.slice uo9 u.length uc9), .bool false] 47) := by
            refine (g6.block K (by rw [World.size_alloc]; have := HS35.out; omega) (fun h9 => ?_)).trans ?_
            · have := own_blk HOS.out.2 h9.symm
              omega
            · exact (heap_alloc_oldW HB5.out)
          have fk0 : w6.frozen? ⟨K, 0, none⟩ = false := frozen_of_row _ _ _ _ _ hB6
          have fk1 : w6.frozen? ⟨K, 1, none⟩ = false := frozen_of_row _ _ _ _ _ hB6
          have q0 := cell_of_row _ _ 0 _ _ _ hB6
          have q1 := cell_of_row _ _ 1 _ _ _ hB6
          simp only [List.getElem?_toArray, List.getElem?_cons_zero, List.getElem?_cons_succ] at q0 q1
          obtain ⟨W7, hW7⟩ : ∃ X, X = (w6.setCell ⟨K, 0, none⟩ v6).setCell ⟨K, 1, none⟩ v5 := ⟨_, rfl⟩
          have HNst : Hid (WSt sig rs t n w0 K (S ++ [(p, k)]) Y.1 v6 v5 W7) := by
            have hbK : ∀ j, Value.ownBlock (.slice so9 S.length sc9) = some j → w0.heap.size ≤ j := fun j hj => by have := own_blk HOS.out.2 hj; omega
            have hv5 : ∀ j, v5.ownBlock = some j → W3.heap.size ≤ j := fun j hj => own_blk HO5.out.2 hj
            have b6 : Below w0.heap.size w0 w6 := (below_step D5.out (below_alloc _)).grown g6 (below_step D5.out (below_alloc _)).size hbK
            have o56 : OwI w6 W3.heap.size v5 Y.1 := (HO5.out.later (below_alloc _)).kept g6 (by
              cases h9 : v5.ownBlock with
              | none => exact .inl rfl
              | some j => exact .inr fun e => by have h8 := hv5 j h9; have h7 := HOl.out j e.symm; omega)
            have hvk : v5.ownBlock ≠ some K := fun h9 => by have := hv5 K h9; omega
            rw [hW7]
            refine ⟨set_below (set_below b6 hKl _ _) hKl _ _, hKl, heap_setCell_same _ _ _ _ _ _ (heap_setCell_same _ _ _ _ _ _ hB6), (o6.setO (by omega) _ _).setO (by omega) _ _, ((o56.mono (by have := D3.out.size; omega)).setO hvk _ _).setO hvk _ _, hvk, a2, a1, by rw [List.length_append, List.length_singleton]; omega, ?_⟩
            have e1 : n = d + S.length + 1 := by omega
            have h9 := HGo.out
            rw [e1] at h9
            have h8 := go_more h9 HFs.out (by rw [← HYe.out]; exact a0)
            rw [← e1, ← HYe.out] at h8
            rw [List.length_append, List.length_singleton, show n - (S.length + 1) = d by omega]
            exact h8
          have HLn : Hid (∃ so8 sc8, W7.cell? ⟨K, 0, none⟩ = some (.slice so8 (S.length + 1) sc8)) := by
            obtain ⟨_, _, h9, h8, _⟩ := HNst.out
            obtain ⟨so8, sc8, h7, _⟩ := h8.shape
            have h6 := cell_of_row _ _ 0 _ _ _ h9
            simp only [List.getElem?_toArray, List.getElem?_cons_zero] at h6
            rw [h7, List.length_append, List.length_singleton] at h6
            exact ⟨so8, sc8, h6⟩
          obtain ⟨so6, sc6, hv6, _⟩ := o6.shape
          rw [List.length_append, List.length_singleton] at hv6
          subst hv6
          obtain ⟨uo6, uc6, hv5, _⟩ := HO5.out.shape
          subst hv5
          clear hr6 o6 g6 hB6 HYc HGo HFs
          go_wp2_with (first
            | (at_builtin; refine wpList_append_run rfl _ _ _ rfl _ _ rfl rfl HR6.out ?_))
          rw [← hW7]
          clear hW7 q0 q1 fk0 fk1 k0 k1 k2 y0 y1
          go_step3
          exact ⟨rfl, K, S ++ [(p, k)], Y.1, _, _, _, _, _, _, _, _, _, _, _, _, _, _, _, _, _, _, _, _, _, _, _, _, _, _, _, _, _, _, _, _, _, _, _, _, _, _, _, _, _, _, _, _, _, _, _, _, _, _, _, _, _, _, _, _, _, _, _, _, _, _, _, _, _, _, _, rfl, HNst.out⟩
        · rw [a0]
          have HB2 : Hid (R = (([], [], false), 2)) := by
            have h9 := HGo.out
            rw [go_big d HFs.out (by rw [← HYe.out, a0]; decide)] at h9
            show _ = _
            rw [HRr.out, h9]
            rfl
          have hr5 := HB0.out w5 D5.out
          have p0 := cell_of_row _ _ 0 _ _ _ hr5
          have p1 := cell_of_row _ _ 1 _ _ _ hr5
          have p2 := cell_of_row _ _ 2 _ _ _ hr5
          simp only [List.getElem?_toArray, List.getElem?_cons_zero, List.getElem?_cons_succ] at p0 p1 p2
          have f0 : w5.frozen? ⟨w.heap.size + 1, 0, none⟩ = false := frozen_of_row _ _ _ _ _ hr5
          have f1 : w5.frozen? ⟨w.heap.size + 1, 1, none⟩ = false := frozen_of_row _ _ _ _ _ hr5
          have f2 : w5.frozen? ⟨w.heap.size + 1, 2, none⟩ = false := frozen_of_row _ _ _ _ _ hr5
          obtain ⟨Z, hZ⟩ : ∃ Z, Z = ((w5.setCell ⟨w.heap.size + 1, 0, none⟩ (.slice none 0 0)).setCell ⟨w.heap.size + 1, 1, none⟩ (.slice none 0 0)).setCell ⟨w.heap.size + 1, 2, none⟩ (.bool false) := ⟨_, rfl⟩
          have HBz : Hid (Below w.heap.size w Z) := by
            rw [hZ]
            exact set_below (set_below (set_below C5.out (by omega) _ _) (by omega) _ _) (by omega) _ _
          have hz9 : Z.heap[w.heap.size + 1]? = some (.cells #[.slice none 0 0, .slice none 0 0, .bool false] 47) := by
            rw [hZ]
            exact heap_setCell_same _ _ _ _ _ _ (heap_setCell_same _ _ _ _ _ _ (heap_setCell_same _ _ _ _ _ _ hr5))
          have z0 := cell_of_row _ _ 0 _ _ _ hz9
          have z1 := cell_of_row _ _ 1 _ _ _ hz9
          have z2 := cell_of_row _ _ 2 _ _ _ hz9
          simp only [List.getElem?_toArray, List.getElem?_cons_zero, List.getElem?_cons_succ] at z0 z1 z2
          clear hz9 hr5 y0 y1 HYc HGo
          go_wp2
          rw [← hZ]
          clear hZ p0 p1 p2 f0 f1 f2
          (try simp only [Exit.jump])
          refine bodyPost_ret (results_cell8 (t := 6) (u := 7) (ty := 47) (ad := ⟨w.heap.size + 1, 0, none⟩) (v := .agg #[.slice none 0 0, .slice none 0 0, .bool false]) rfl rfl (by go_simp)) rfl ?_
          exact walk_none HB2.out HBz.out
  · rintro a' wr ⟨K, S, u, Sv, Uv, u10v, u11v, u12v, u13v, u14v, u15v, u16v, u17v, u18v, u19v, u20v, u21v, u22v, u23v, u24v, u25v, u26v, u27v, u28v, u29v, u30v, u31v, u32v, u33v, u34v, u35v, u36v, u37v, u38v, u39v, u40v, u41v, u42v, u43v, u44v, u45v, u46v, u47v, u48v, u49v, u50v, u51v, u52v, u53v, u54v, u55v, u56v, u57v, u58v, u59v, u60v, u61v, u62v, u63v, u64v, u65v, u66v, u67v, u68v, u69v, u70v, u71v, u72v, u73v, u74v, rfl, hst⟩
    clear x0 x1 HCk
    obtain ⟨hb, hKl, hblk, hox, how, hne, hul, hste, hsl, hgo⟩ := hst
    have Dr := hid hb
    have Cr := hid (below_step C0.out hb)
    have HBk := hid hblk
    have HOx := hid hox
    have HOw := hid how
    have HNe := hid hne
    have HSt := hid hste
    have HGo := hid hgo
    have HKs : K < wr.heap.size := (Array.getElem?_eq_some_iff.1 hblk).1
    obtain ⟨x0, x1⟩ := HC.out wr hb
    have k0 := cell_of_row _ _ 0 _ _ _ hblk
    have k1 := cell_of_row _ _ 1 _ _ _ hblk
    simp only [List.getElem?_toArray, List.getElem?_cons_zero, List.getElem?_cons_succ] at k0 k1
    have HK0 := hid k0
    have HF := hid (first_any2 _ _ _ sig rs u wr (HS.out.kp (Kp.of_below Cr.out)) (HR.out.kp (Kp.of_below Cr.out)) HOw.out.is (HT.out.below Cr.out) (by omega) HSt.out)
    obtain ⟨so9, sc9, hsv, hsc1, hsc2⟩ := hox.shape
    unfold maxLen at hsc2
    subst hsv
    obtain ⟨uo9, uc9, huv, _⟩ := how.shape
    subst huv
    clear hb hblk hox how hne hste hgo
    go_wp2_with fail
    refine HF.out.mono ?_
    rintro e wf ⟨p, k, rfl, hz, hbf⟩
    have HZ := hid hz
    obtain ⟨W3, hW3⟩ : ∃ X, X = wf.alloc (.cells #[.int .i64 p, .int .i64 k] 32) := ⟨_, rfl⟩
    have J3 : Hid (Below wr.heap.size wr W3) := by rw [hW3]; exact below_step hbf (below_alloc _)
    have D3 := hid (below_step Dr.out J3.out)
    have C3 := hid (below_step Cr.out J3.out)
    have HB3 : Hid (W3.heap[K]? = some (.cells #[.slice so9 S.length sc9, (.slice uo9 u.length uc9), .bool false] 47)) := ((grown_of_below J3.out none).block _ HKs (by simp)).trans HBk.out
    have hr3 := HB0.out W3 D3.out
    have HO3 := hid (HOx.out.later J3.out)
    have HU3 := hid (HOw.out.later J3.out)
    have y0 : W3.cell? ⟨wf.heap.size, 0, none⟩ = some (.int .i64 p) := by rw [hW3]; exact cell_new rfl
    have y1 : W3.cell? ⟨wf.heap.size, 1, none⟩ = some (.int .i64 k) := by rw [hW3]; exact cell_new rfl
    have k0 := cell_of_row _ _ 0 _ _ _ HB3.out
    have k1 := cell_of_row _ _ 1 _ _ _ HB3.out
    have k2 := cell_of_row _ _ 2 _ _ _ HB3.out
    simp only [List.getElem?_toArray, List.getElem?_cons_zero, List.getElem?_cons_succ] at k0 k1 k2
    have fk2 : W3.frozen? ⟨K, 2, none⟩ = false := frozen_of_row _ _ _ _ _ HB3.out
    clear hz hbf x0 x1 HF HOx HOw
    go_upto_region 10 with fail
    rw [← hW3]
    clear hW3
    cases hfs : fsO sig rs u with
    | none =>
      rw [Option.isSome_none]
      go_upto_region 11 with fail
      obtain ⟨W4, hW4⟩ : ∃ X, X = W3.setCell ⟨K, 2, none⟩ (.bool true) := ⟨_, rfl⟩
      have C4 : Hid (Below w.heap.size w W4) := by rw [hW4]; exact set_below C3.out (by have := C0.out.size; omega) _ _
      have hB4 : W4.heap[K]? = some (.cells #[.slice so9 S.length sc9, (.slice uo9 u.length uc9), .bool true] 47) := by rw [hW4]; exact heap_setCell_same _ _ _ _ _ _ HB3.out
      have hr4 : W4.heap[w.heap.size + 1]? = some (.cells #[.slice none 0 0, .slice none 0 0, .bool false] 47) := by
        rw [hW4]
        exact ((set_grown W3 K 2 (.bool true)).block _ (Array.getElem?_eq_some_iff.1 hr3).1 (fun h9 => by cases h9; have := HSz.out; omega)).trans hr3
      have HO4 : Hid (OX W4 (K + 1) (.slice so9 S.length sc9) S) := by rw [hW4]; exact HO3.out.setO (by omega) _ _
      have HU4 : Hid (OwI W4 w0.heap.size (.slice uo9 u.length uc9) u) := by rw [hW4]; exact HU3.out.setO HNe.out _ _
      have k0 := cell_of_row _ _ 0 _ _ _ hB4
      have k1 := cell_of_row _ _ 1 _ _ _ hB4
      have k2n := cell_of_row _ _ 2 _ _ _ hB4
      have p0 := cell_of_row _ _ 0 _ _ _ hr4
      have p1 := cell_of_row _ _ 1 _ _ _ hr4
      have p2 := cell_of_row _ _ 2 _ _ _ hr4
      simp only [List.getElem?_toArray, List.getElem?_cons_zero, List.getElem?_cons_succ] at k0 k1 k2n p0 p1 p2
      have f0 : W4.frozen? ⟨w.heap.size + 1, 0, none⟩ = false := frozen_of_row _ _ _ _ _ hr4
      have f1 : W4.frozen? ⟨w.heap.size + 1, 1, none⟩ = false := frozen_of_row _ _ _ _ _ hr4
      have f2 : W4.frozen? ⟨w.heap.size + 1, 2, none⟩ = false := frozen_of_row _ _ _ _ _ hr4
      go_upto_region 12 with fail
      rw [← hW4]
      clear hW4 k2 fk2 y0 y1
      obtain ⟨Z, hZ⟩ : ∃ Z, Z = ((W4.setCell ⟨w.heap.size + 1, 0, none⟩ (.slice so9 S.length sc9)).setCell ⟨w.heap.size + 1, 1, none⟩ (.slice uo9 u.length uc9)).setCell ⟨w.heap.size + 1, 2, none⟩ (.bool true) := ⟨_, rfl⟩
      have HBz : Hid (Below w.heap.size w Z) := by
        rw [hZ]
        exact set_below (set_below (set_below C4.out (by omega) _ _) (by omega) _ _) (by omega) _ _
      have hnr : Value.ownBlock (.slice uo9 u.length uc9) ≠ some (w.heap.size + 1) := fun h9 => by have := own_blk HU4.out.2 h9; have := HSz.out; omega
      have HOZ : Hid (OX Z (K + 1) (.slice so9 S.length sc9) S) := by
        have := HSz.out
        rw [hZ]
        exact ((HO4.out.setO (by omega) _ _).setO (by omega) _ _).setO (by omega) _ _
      have HUZ : Hid (OwI Z w0.heap.size (.slice uo9 u.length uc9) u) := by
        rw [hZ]
        exact ((HU4.out.setO hnr _ _).setO hnr _ _).setO hnr _ _
      have hz9 : Z.heap[w.heap.size + 1]? = some (.cells #[.slice so9 S.length sc9, (.slice uo9 u.length uc9), .bool true] 47) := by
        rw [hZ]
        exact heap_setCell_same _ _ _ _ _ _ (heap_setCell_same _ _ _ _ _ _ (heap_setCell_same _ _ _ _ _ _ hr4))
      have z0 := cell_of_row _ _ 0 _ _ _ hz9
      have z1 := cell_of_row _ _ 1 _ _ _ hz9
      have z2 := cell_of_row _ _ 2 _ _ _ hz9
      simp only [List.getElem?_toArray, List.getElem?_cons_zero, List.getElem?_cons_succ] at z0 z1 z2
      have HRe : Hid (R = ((S, u, true), 0)) := by
        have h9 := HGo.out
        rw [go_none _ hfs] at h9
        show _ = _
        rw [HRr.out, h9]
        simp
      clear hz9 hr4 hB4 hnr
      go_wp2
      rw [← hZ]
      clear hZ k0 k1 k2n p0 p1 p2 f0 f1 f2
      (try simp only [Exit.jump])
      refine bodyPost_ret (results_cell8 (t := 6) (u := 7) (ty := 47) (ad := ⟨w.heap.size + 1, 0, none⟩) (v := .agg #[.slice so9 S.length sc9, (.slice uo9 u.length uc9), .bool true]) rfl rfl (by go_simp)) rfl ?_
      exact walk_done HRe.out HOZ.out.xs HOZ.out.1 HUZ.out.is HBz.out
    | some z =>
      rw [Option.isSome_some]
      have hzp := HZ.out z hfs
      subst hzp
      by_cases hsn : S.length = n
      · have hq : ((S.length : Int) == (n : Int)) = true := by rw [hsn]; simp
        have HSn := hid hsn
        clear hsn
        go_upto_region 11 with fail
        obtain ⟨W4, hW4⟩ : ∃ X, X = W3.setCell ⟨K, 2, none⟩ (.bool false) := ⟨_, rfl⟩
        have C4 : Hid (Below w.heap.size w W4) := by rw [hW4]; exact set_below C3.out (by have := C0.out.size; omega) _ _
        have hB4 : W4.heap[K]? = some (.cells #[.slice so9 S.length sc9, (.slice uo9 u.length uc9), .bool false] 47) := by rw [hW4]; exact heap_setCell_same _ _ _ _ _ _ HB3.out
        have hr4 : W4.heap[w.heap.size + 1]? = some (.cells #[.slice none 0 0, .slice none 0 0, .bool false] 47) := by
          rw [hW4]
          exact ((set_grown W3 K 2 (.bool false)).block _ (Array.getElem?_eq_some_iff.1 hr3).1 (fun h9 => by cases h9; have := HSz.out; omega)).trans hr3
        have HO4 : Hid (OX W4 (K + 1) (.slice so9 S.length sc9) S) := by rw [hW4]; exact HO3.out.setO (by omega) _ _
        have HU4 : Hid (OwI W4 w0.heap.size (.slice uo9 u.length uc9) u) := by rw [hW4]; exact HU3.out.setO HNe.out _ _
        have k0 := cell_of_row _ _ 0 _ _ _ hB4
        have k1 := cell_of_row _ _ 1 _ _ _ hB4
        have k2n := cell_of_row _ _ 2 _ _ _ hB4
        have p0 := cell_of_row _ _ 0 _ _ _ hr4
        have p1 := cell_of_row _ _ 1 _ _ _ hr4
        have p2 := cell_of_row _ _ 2 _ _ _ hr4
        simp only [List.getElem?_toArray, List.getElem?_cons_zero, List.getElem?_cons_succ] at k0 k1 k2n p0 p1 p2
        have f0 : W4.frozen? ⟨w.heap.size + 1, 0, none⟩ = false := frozen_of_row _ _ _ _ _ hr4
        have f1 : W4.frozen? ⟨w.heap.size + 1, 1, none⟩ = false := frozen_of_row _ _ _ _ _ hr4
        have f2 : W4.frozen? ⟨w.heap.size + 1, 2, none⟩ = false := frozen_of_row _ _ _ _ _ hr4
        go_upto_region 12 with fail
        rw [← hW4]
        clear hW4 k2 fk2 y0 y1
        obtain ⟨Z, hZ⟩ : ∃ Z, Z = ((W4.setCell ⟨w.heap.size + 1, 0, none⟩ (.slice so9 S.length sc9)).setCell ⟨w.heap.size + 1, 1, none⟩ (.slice uo9 u.length uc9)).setCell ⟨w.heap.size + 1, 2, none⟩ (.bool false) := ⟨_, rfl⟩
        have HBz : Hid (Below w.heap.size w Z) := by
          rw [hZ]
          exact set_below (set_below (set_below C4.out (by omega) _ _) (by omega) _ _) (by omega) _ _
        have hnr : Value.ownBlock (.slice uo9 u.length uc9) ≠ some (w.heap.size + 1) := fun h9 => by have := own_blk HU4.out.2 h9; have := HSz.out; omega
        have HOZ : Hid (OX Z (K + 1) (.slice so9 S.length sc9) S) := by
          have := HSz.out
          rw [hZ]
          exact ((HO4.out.setO (by omega) _ _).setO (by omega) _ _).setO (by omega) _ _
        have HUZ : Hid (OwI Z w0.heap.size (.slice uo9 u.length uc9) u) := by
          rw [hZ]
          exact ((HU4.out.setO hnr _ _).setO hnr _ _).setO hnr _ _
        have hz9 : Z.heap[w.heap.size + 1]? = some (.cells #[.slice so9 S.length sc9, (.slice uo9 u.length uc9), .bool false] 47) := by
          rw [hZ]
          exact heap_setCell_same _ _ _ _ _ _ (heap_setCell_same _ _ _ _ _ _ (heap_setCell_same _ _ _ _ _ _ hr4))
        have z0 := cell_of_row _ _ 0 _ _ _ hz9
        have z1 := cell_of_row _ _ 1 _ _ _ hz9
        have z2 := cell_of_row _ _ 2 _ _ _ hz9
        simp only [List.getElem?_toArray, List.getElem?_cons_zero, List.getElem?_cons_succ] at z0 z1 z2
        have HRe : Hid (R = ((S, u, false), 0)) := by
          have h9 := HGo.out
          rw [HSn.out, Nat.sub_self, goW, hfs] at h9
          show _ = _
          rw [HRr.out, h9]
          simp
        clear hz9 hr4 hB4 hnr
        go_wp2
        rw [← hZ]
        clear hZ k0 k1 k2n p0 p1 p2 f0 f1 f2
        (try simp only [Exit.jump])
        refine bodyPost_ret (results_cell8 (t := 6) (u := 7) (ty := 47) (ad := ⟨w.heap.size + 1, 0, none⟩) (v := .agg #[.slice so9 S.length sc9, (.slice uo9 u.length uc9), .bool false]) rfl rfl (by go_simp)) rfl ?_
        exact walk_done HRe.out HOZ.out.xs HOZ.out.1 HUZ.out.is HBz.out
      · have hq : ((S.length : Int) == (n : Int)) = false := by rw [beq_eq_false_iff_ne]; omega
        obtain ⟨d, hd⟩ : ∃ d, n - S.length = d + 1 := ⟨n - S.length - 1, by omega⟩
        rw [hd] at HGo
        obtain ⟨x0, x1⟩ := HC.out W3 D3.out
        have hbd := bnds_first HSt.out hul hfs
        have HCl := hid (do_any _ _ _ sig rs u p k W3 (HS.out.kp (Kp.of_below C3.out)) (HR.out.kp (Kp.of_below C3.out)) HU3.out.is (HT.out.below C3.out) (by omega) hbd.1.1 hbd.1.2 hbd.2.1 hbd.2.2)
        have HBd := hid hbd
        have HFs := hid hfs
        have HYc := hid (do_first HSt.out hfs)
        obtain ⟨Y, hY⟩ : ∃ Y, Y = doR sig rs u p k := ⟨_, rfl⟩
        have HYe := hid hY
        simp only at HYc
        rw [← hY] at HCl HYc
        clear hY hbd hfs fk2
        go_wp2_with fail
        refine HCl.out.mono ?_
        rintro e w5 ⟨v5, rfl, o5, hb5⟩
        have D5 := hid (below_step D3.out hb5)
        have C5 := hid (below_step C3.out hb5)
        have HO5 := hid o5
        have HOS := hid (HO3.out.later hb5)
        have HB5 : Hid (w5.heap[K]? = some (.cells #[.slice so9 S.length sc9, (.slice uo9 u.length uc9), .bool false] 47)) := ((grown_of_below hb5 none).block _ (Array.getElem?_eq_some_iff.1 HB3.out).1 (by simp)).trans HB3.out
        have y0 := (Kp.of_below hb5).cell _ _ y0
        have y1 := (Kp.of_below hb5).cell _ _ y1
        have HS35 := hid hb5.size
        have HK3 : K < W3.heap.size := (Array.getElem?_eq_some_iff.1 HB3.out).1
        have HOl : Hid (∀ j, Value.ownBlock (.slice so9 S.length sc9) = some j → j < W3.heap.size) := fun j hj => own_blk_lt HO3.out.2 hj
        clear o5 hb5 x0 x1 HCl k0 k1 k2
        rcases HYc.out with ⟨a0, a1, a2⟩ | a0
        · rw [a0]
          have k0 := cell_of_row _ _ 0 _ _ _ HB5.out
          have k1 := cell_of_row _ _ 1 _ _ _ HB5.out
          have k2 := cell_of_row _ _ 2 _ _ _ HB5.out
          simp only [List.getElem?_toArray, List.getElem?_cons_zero, List.getElem?_cons_succ] at k0 k1 k2
          obtain ⟨v6, w6, hr6, o6, g6⟩ := OX.join 29 (x := (p, k)) HOS.out (by have := HS35.out; omega) HBd.out (by omega)
          have HR6 := hid hr6
          have hB6 : w6.heap[K]? = some (.cells #[.slice so9 S.length sc9, (.slice uo9 u.length uc9), .bool false] 47) := by
            refine (g6.block K (by rw [World.size_alloc]; have := HS35.out; omega) (fun h9 => ?_)).trans ?_
            · have := own_blk HOS.out.2 h9.symm
              omega
            · exact (heap_alloc_oldW HB5.out)
          have fk0 : w6.frozen? ⟨K, 0, none⟩ = false := frozen_of_row _ _ _ _ _ hB6
          have fk1 : w6.frozen? ⟨K, 1, none⟩ = false := frozen_of_row _ _ _ _ _ hB6
          have q0 := cell_of_row _ _ 0 _ _ _ hB6
          have q1 := cell_of_row _ _ 1 _ _ _ hB6
          simp only [List.getElem?_toArray, List.getElem?_cons_zero, List.getElem?_cons_succ] at q0 q1
          obtain ⟨W7, hW7⟩ : ∃ X, X = (w6.setCell ⟨K, 0, none⟩ v6).setCell ⟨K, 1, none⟩ v5 := ⟨_, rfl⟩
          have HNst : Hid (WSt sig rs t n w0 K (S ++ [(p, k)]) Y.1 v6 v5 W7) := by
            have hbK : ∀ j, Value.ownBlock (.slice so9 S.length sc9) = some j → w0.heap.size ≤ j := fun j hj => by have := own_blk HOS.out.2 hj; omega
            have hv5 : ∀ j, v5.ownBlock = some j → W3.heap.size ≤ j := fun j hj => own_blk HO5.out.2 hj
            have b6 : Below w0.heap.size w0 w6 := (below_step D5.out (below_alloc _)).grown g6 (below_step D5.out (below_alloc _)).size hbK
            have o56 : OwI w6 W3.heap.size v5 Y.1 := (HO5.out.later (below_alloc _)).kept g6 (by
              cases h9 : v5.ownBlock with
              | none => exact .inl rfl
              | some j => exact .inr fun e => by have h8 := hv5 j h9; have h7 := HOl.out j e.symm; omega)
            have hvk : v5.ownBlock ≠ some K := fun h9 => by have := hv5 K h9; omega
            rw [hW7]
            refine ⟨set_below (set_below b6 hKl _ _) hKl _ _, hKl, heap_setCell_same _ _ _ _ _ _ (heap_setCell_same _ _ _ _ _ _ hB6), (o6.setO (by omega) _ _).setO (by omega) _ _, ((o56.mono (by have := D3.out.size; omega)).setO hvk _ _).setO hvk _ _, hvk, a2, a1, by rw [List.length_append, List.length_singleton]; omega, ?_⟩
            have e1 : n = d + S.length + 1 := by omega
            have h9 := HGo.out
            rw [e1] at h9
            have h8 := go_more h9 HFs.out (by rw [← HYe.out]; exact a0)
            rw [← e1, ← HYe.out] at h8
            rw [List.length_append, List.length_singleton, show n - (S.length + 1) = d by omega]
            exact h8
          have HLn : Hid (∃ so8 sc8, W7.cell? ⟨K, 0, none⟩ = some (.slice so8 (S.length + 1) sc8)) := by
            obtain ⟨_, _, h9, h8, _⟩ := HNst.out
            obtain ⟨so8, sc8, h7, _⟩ := h8.shape
            have h6 := cell_of_row _ _ 0 _ _ _ h9
            simp only [List.getElem?_toArray, List.getElem?_cons_zero] at h6
            rw [h7, List.length_append, List.length_singleton] at h6
            exact ⟨so8, sc8, h6⟩
          obtain ⟨so6, sc6, hv6, _⟩ := o6.shape
          rw [List.length_append, List.length_singleton] at hv6
          subst hv6
          obtain ⟨uo6, uc6, hv5, _⟩ := HO5.out.shape
          subst hv5
          clear hr6 o6 g6 hB6 HYc HGo HFs
          go_wp2_with (first
            | (at_builtin; refine wpList_append_run rfl _ _ _ rfl _ _ rfl rfl HR6.out ?_))
          rw [← hW7]
          clear hW7 q0 q1 fk0 fk1 k0 k1 k2 y0 y1
          go_step3
          refine ⟨rfl, ⟨K, S ++ [(p, k)], Y.1, _, _, _, _, _, _, _, _, _, _, _, _, _, _, _, _, _, _, _, _, _, _, _, _, _, _, _, _, _, _, _, _, _, _, _, _, _, _, _, _, _, _, _, _, _, _, _, _, _, _, _, _, _, _, _, _, _, _, _, _, _, _, _, _, _, _, _, rfl, HNst.out⟩, ?_⟩
          obtain ⟨so8, sc8, h1⟩ := HLn.out
          show n - lenCell (W7.cell? ⟨K, 0, none⟩) < n - lenCell (wr.cell? ⟨K, 0, none⟩)
          rw [h1, HK0.out]
          show n - (S.length + 1) < n - S.length
          omega
        · rw [a0]
          have HB2 : Hid (R = (([], [], false), 2)) := by
            have h9 := HGo.out
            rw [go_big d HFs.out (by rw [← HYe.out, a0]; decide)] at h9
            show _ = _
            rw [HRr.out, h9]
            rfl
          have hr5 := HB0.out w5 D5.out
          have p0 := cell_of_row _ _ 0 _ _ _ hr5
          have p1 := cell_of_row _ _ 1 _ _ _ hr5
          have p2 := cell_of_row _ _ 2 _ _ _ hr5
          simp only [List.getElem?_toArray, List.getElem?_cons_zero, List.getElem?_cons_succ] at p0 p1 p2
          have f0 : w5.frozen? ⟨w.heap.size + 1, 0, none⟩ = false := frozen_of_row _ _ _ _ _ hr5
          have f1 : w5.frozen? ⟨w.heap.size + 1, 1, none⟩ = false := frozen_of_row _ _ _ _ _ hr5
          have f2 : w5.frozen? ⟨w.heap.size + 1, 2, none⟩ = false := frozen_of_row _ _ _ _ _ hr5
          obtain ⟨Z, hZ⟩ : ∃ Z, Z = ((w5.setCell ⟨w.heap.size + 1, 0, none⟩ (.slice none 0 0)).setCell ⟨w.heap.size + 1, 1, none⟩ (.slice none 0 0)).setCell ⟨w.heap.size + 1, 2, none⟩ (.bool false) := ⟨_, rfl⟩
          have HBz : Hid (Below w.heap.size w Z) := by
            rw [hZ]
            exact set_below (set_below (set_below C5.out (by omega) _ _) (by omega) _ _) (by omega) _ _
          have hz9 : Z.heap[w.heap.size + 1]? = some (.cells #[.slice none 0 0, .slice none 0 0, .bool false] 47) := by
            rw [hZ]
            exact heap_setCell_same _ _ _ _ _ _ (heap_setCell_same _ _ _ _ _ _ (heap_setCell_same _ _ _ _ _ _ hr5))
          have z0 := cell_of_row _ _ 0 _ _ _ hz9
          have z1 := cell_of_row _ _ 1 _ _ _ hz9
          have z2 := cell_of_row _ _ 2 _ _ _ hz9
          simp only [List.getElem?_toArray, List.getElem?_cons_zero, List.getElem?_cons_succ] at z0 z1 z2
          clear hz9 hr5 y0 y1 HYc HGo
          go_wp2
          rw [← hZ]
          clear hZ p0 p1 p2 f0 f1 f2
          (try simp only [Exit.jump])
          refine bodyPost_ret (results_cell8 (t := 6) (u := 7) (ty := 47) (ad := ⟨w.heap.size + 1, 0, none⟩) (v := .agg #[.slice none 0 0, .slice none 0 0, .bool false]) rfl rfl (by go_simp)) rfl ?_
          exact walk_none HB2.out HBz.out

theorem walk_any (sv rv tv : Value) (sig : List Sy) (rs : List Rl) (t : List Int) (m : Int) (w : World) (hs : Sg w sv sig) (hr : RU w rv rs) (ht : Is w tv t) (hT : Tabs w) (htl : t.length ≤ 1048576) :
    Calls Tryz.prog 20 #[.agg #[sv, rv], tv, .int .i64 m] w fun e w' => ∃ Sv Ev, e = .returned (.tuple #[.agg #[Sv, Ev, .bool (walkR sig rs t m).1.2.2], .int .i64 (walkR sig rs t m).2]) ∧ Xs w' Sv (walkR sig rs t m).1.1 ∧ RxOk (walkR sig rs t m).1.1 ∧ Is w' Ev (walkR sig rs t m).1.2.1 ∧ Below w.heap.size w w' := by
  by_cases he : stepE sig rs t = 0
  · by_cases h1 : m < 0
    · exact (walkBad_any sv rv tv sig rs t m 1 w hs hr ht hT htl (.inr (.inl ⟨he, h1, rfl⟩))).mono (fun e' w' h7 => by rw [h7.1]; exact walk_none (by unfold walkR; rw [if_pos he, if_pos (.inl h1)]) h7.2)
    · by_cases h2 : 4096 < m
      · exact (walkBad_any sv rv tv sig rs t m 1 w hs hr ht hT htl (.inr (.inr (.inl ⟨he, h1, h2, rfl⟩)))).mono (fun e' w' h7 => by rw [h7.1]; exact walk_none (by unfold walkR; rw [if_pos he, if_pos (.inr h2)]) h7.2)
      · by_cases h3 : 512 < t.length
        · exact (walkBad_any sv rv tv sig rs t m 2 w hs hr ht hT htl (.inr (.inr (.inr ⟨he, h1, h2, h3, rfl⟩)))).mono (fun e' w' h7 => by rw [h7.1]; exact walk_none (by unfold walkR; rw [if_pos he, if_neg (by omega), if_pos h3]) h7.2)
        · obtain ⟨n, rfl⟩ : ∃ n : Nat, m = n := ⟨m.toNat, by omega⟩
          exact walkGood_any sv rv tv sig rs t n w hs hr ht hT (by omega) he (by omega) (by unfold walkR; rw [if_pos he, if_neg (by omega), if_neg h3, Int.toNat_natCast]; rfl)
  · exact (walkBad_any sv rv tv sig rs t m _ w hs hr ht hT htl (.inl ⟨he, rfl⟩)).mono (fun e' w' h7 => by rw [h7.1]; exact walk_none (by unfold walkR; rw [if_neg he]) h7.2)

end Go.Proofs.YtgpbnbmjgcchfaaGreatDoor

/- Along of package walk walked. -/
namespace Go.Proofs.YtgpbnbmjgcchfaaGreatDoor
open Go.RowKit Go.Maps Go.BigFrame

set_option maxRecDepth 100000 in
set_option maxHeartbeats 3200000 in
theorem along_any (sv rv tv lv : Value) (sig : List Sy) (rs : List Rl) (t : List Int) (l : List Rx) (w : World) (hs : Sg w sv sig) (hr : RU w rv rs) (ht : Is w tv t) (hl : Xs w lv l) (hx : RxOk l) (hT : Tabs w) (htl : t.length ≤ 1048576) :
    Calls Tryz.prog 21 #[.agg #[sv, rv], tv, lv] w fun e w' => ∃ v', e = .returned (.tuple #[v', .int .i64 (alongA sig rs t l).2.1, .int .i64 (alongA sig rs t l).2.2]) ∧ OwI w' w.heap.size v' (alongA sig rs t l).1 ∧ Below w.heap.size w w' := by
  obtain ⟨so, sc, rfl, hso, hsc, _⟩ := Row.flat hs
  obtain ⟨ro, rc, rfl, hro, hrc, _⟩ := Row.flat hr
  obtain ⟨to2, tc, rfl, hto, htc, _⟩ := ht.flatI
  obtain ⟨lo, lc, rfl, hlo, hlc, _⟩ := Row.flat hl
  unfold maxLen at hlc
  have HS := hid hs
  have HR := hid hr
  have HTt := hid ht
  have HT := hid hT
  have HL := hid hl
  have HX := hid hx
  clear hs hr ht hT hl hx
  obtain ⟨w0, hw0⟩ : ∃ X, X = w.alloc (.cells #[.slice so sig.length sc, .slice ro rs.length rc] 25) := ⟨_, rfl⟩
  have C0 : Hid (Below w.heap.size w w0) := by rw [hw0]; exact below_alloc _
  have HC : Hid (∀ W, Below w0.heap.size w0 W → W.cell? ⟨w.heap.size, 0, none⟩ = some (.slice so sig.length sc) ∧ W.cell? ⟨w.heap.size, 1, none⟩ = some (.slice ro rs.length rc)) := fun W hW => by
    have hk := Kp.of_below hW
    rw [hw0] at hk
    exact ⟨hk.cell _ _ (cell_new rfl), hk.cell _ _ (cell_new rfl)⟩
  obtain ⟨R, hR⟩ : ∃ R, R = alongA sig rs t l := ⟨_, rfl⟩
  rw [← hR]
  have HRr := hid hR
  clear hR
  obtain ⟨RL, RE, RN⟩ := R
  unfold alongA at HRr
  go_enter Tryz.func21, Tryz.ntmps21
  go_wp2_with fail
  rw [← hw0]
  clear hw0
  refine (wcheck_any _ _ _ sig rs t w0 (HS.out.kp (Kp.of_below C0.out)) (HR.out.kp (Kp.of_below C0.out)) (HTt.out.kp (Kp.of_below C0.out)) (HT.out.below C0.out) htl).mono ?_
  rintro e w1 ⟨rfl, hb1⟩
  have C1 := hid (below_step C0.out hb1)
  have D1 := hid hb1
  clear hb1
  by_cases he : stepE sig rs t = 0
  · rw [if_pos he] at HRr
    rw [he]
    by_cases h5 : 512 < t.length
    · rw [if_pos h5] at HRr
      have hd : decide (512 < t.length) = true := by simpa using h5
      go_wp2
      go_ret3
      exact along_done HRr.out (nil_own _ _) C1.out
    · rw [if_neg h5] at HRr
      have hd : decide (512 < t.length) = false := by simpa using h5
      have h0 : 0 < t.length := right_len (term_parts (stepE_zero he).2).2
      go_wp2_with fail
      refine (cloneI_any _ t w1 (HTt.out.kp (Kp.of_below C1.out)) h0 (by omega)).mono ?_
      rintro e w2 ⟨v2, rfl, o2, hb2⟩
      have HO2 := hid (o2.mono C1.out.size)
      have C2 := hid (below_step C1.out hb2)
      have D2 := hid (below_step D1.out hb2)
      have HTl := hid h5
      clear o2 hb2 hd he h0 h5
      go_wp2
      go_loopw [10, 28] (fun ev iv wr => ∃ (i : Nat) (u : List Int), i ≤ l.length ∧ iv = .int .i64 i ∧ u.length ≤ 512 ∧ OwI wr w.heap.size ev u ∧ Below w2.heap.size w2 wr ∧ (RL, RE, RN) = alongR sig rs i u (l.drop i)) (fun _ iv _ => l.length - (intOf iv).toNat)
      case atStart => exact ⟨0, t, Nat.zero_le _, rfl, by have := HTl.out; omega, HO2.out, Below.refl _ _, HRr.out⟩
      case round =>
        obtain ⟨i, u, hi, rfl, hul, hou, hbr, hal⟩ := hrel
        have HOu := hid hou
        have HAl := hid hal
        have Cr := hid (below_step C2.out hbr)
        have Dr := hid (below_step D2.out hbr)
        have HBr := hid hbr
        clear hou hal hbr
        by_cases hlt : i < l.length
        · have hd : decide ((i : Int) < (l.length : Int)) = true := by simpa using hlt
          obtain ⟨g, off, p, k, rfl, hx, hc0, hc1⟩ := (HL.out.kp (Kp.of_below Cr.out)).at hlt
          have HXk := hid hx
          have hbk := HX.out _ (List.mem_of_getElem? hx)
          clear hx
          obtain ⟨⟨hp1, hp2⟩, hk1, hk2⟩ := hbk
          simp only at hp1 hp2 hk1 hk2
          have HDr : Hid (l.drop i = (p, k) :: l.drop (i + 1)) := by
            show _ = _
            rw [List.drop_eq_getElem_cons hlt, (List.getElem?_eq_some_iff.1 HXk.out).2]
          rw [HDr.out, alongR] at HAl
          obtain ⟨W3, hW3⟩ : ∃ X, X = wr.alloc (.cells #[.int .i64 p, .int .i64 k] 32) := ⟨_, rfl⟩
          have J3 : Hid (Below wr.heap.size wr W3) := by rw [hW3]; exact below_alloc _
          have y0 : W3.cell? ⟨wr.heap.size, 0, none⟩ = some (.int .i64 p) := by rw [hW3]; exact cell_new rfl
          have y1 : W3.cell? ⟨wr.heap.size, 1, none⟩ = some (.int .i64 k) := by rw [hW3]; exact cell_new rfl
          obtain ⟨x0, x1⟩ := HC.out W3 (below_step Dr.out J3.out)
          have C3 := hid (below_step Cr.out J3.out)
          have HCl := hid (do_any _ _ _ sig rs u p k W3 (HS.out.kp (Kp.of_below C3.out)) (HR.out.kp (Kp.of_below C3.out)) ((HOu.out.is).kp (Kp.of_below J3.out)) (HT.out.below C3.out) (by omega) hp1 hp2 hk1 hk2)
          have hYl := doR_few sig rs u p k
          obtain ⟨Y, hY⟩ : ∃ Y, Y = doR sig rs u p k := ⟨_, rfl⟩
          simp only at HAl
          rw [← hY] at HCl HAl hYl
          clear hY
          go_upto_region 10 with fail
          rw [← hW3]
          clear hW3 hc0 hc1
          go_wp2_with fail
          refine HCl.out.mono ?_
          rintro e w4 ⟨v4, rfl, o4, hb4⟩
          have HO4 := hid (o4.mono C3.out.size)
          have B4 := hid (below_step (below_step HBr.out J3.out) hb4)
          have C4 := hid (below_step C3.out hb4)
          clear o4 hb4 x0 x1 y0 y1 HCl
          by_cases hE : Y.2 = 0
          · rw [if_pos hE] at HAl
            rw [hE]
            go_wp2
            go_roundw
            case rel => exact ⟨i + 1, Y.1, hlt, by go_num, hYl, HO4.out, B4.out, HAl.out⟩
            case measure => simp [intOf]; omega
          · rw [if_neg hE] at HAl
            have hne : (Y.2 != 0) = true := by rw [bne_iff_ne]; exact hE
            go_wp2
            go_ret3
            exact along_done HAl.out (nil_own _ _) C4.out
        · have hd : decide ((i : Int) < (l.length : Int)) = false := by simpa using (show ¬ (i : Int) < (l.length : Int) by omega)
          rw [List.drop_of_length_le (by omega), alongR] at HAl
          go_wp2
          go_ret3
          exact along_done HAl.out HOu.out Cr.out
  · rw [if_neg he] at HRr
    have hne : (stepE sig rs t != 0) = true := by rw [bne_iff_ne]; exact he
    go_wp2
    go_ret3
    exact along_done HRr.out (nil_own _ _) C1.out

end Go.Proofs.YtgpbnbmjgcchfaaGreatDoor
