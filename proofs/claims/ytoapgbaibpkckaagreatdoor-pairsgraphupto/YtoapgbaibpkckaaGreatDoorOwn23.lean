/- PairsGraph: its walk. -/
import Derived.Test.YtoapgbaibpkckaaGreatDoorOwn22
namespace Go.Proofs.YtoapgbaibpkckaaGreatDoor
open Go.RowKit Go.Maps Go.BigFrame

theorem of13_fewG {sig : List Sy} {rs : List Rl} : ∀ r ∈ ofL13 sig rs, r.1.length ≤ 1048576 ∧ r.2.length ≤ 1048576 := fun r hr => by
  unfold ofL13 ofE13 at hr
  by_cases h0 : (sysE sig rs).1 = 0
  · have hs : sysB sig rs = true := by unfold sysB; simp [h0]
    have h5 := pairs_few (D := definedL sig rs) (sig := sig) (rs := rs) (fun r hr => by have := rule_parts ((sys_right hs).2 r hr); exact ⟨this.2.2.1, this.2.2.2.1⟩)
    have hm : r ∈ pairsL sig (definedL sig rs) rs := by
      rw [if_pos h0] at hr
      split at hr
      · simp at hr
      · simpa using hr
    have := h5 r hm
    omega
  · rw [if_neg h0, if_neg h0] at hr
    simp at hr

theorem own_head13 {w : World} {base g n cap m s : Nat} {e : TypeId} {xs : List Value} (h : w.ownsRow base e s (.slice (some ⟨g, 0, none⟩) n cap) n xs) (hm : m ≤ n) : w.ownsRow base e s (.slice (some ⟨g, 0, none⟩) m cap) m (xs.take (m * s)) := by
  have h1 := h.1
  rcases h.2 with ⟨hv, _⟩ | ⟨g', cap', cur, hv, hb, hg, hc, hmx, hs, ht⟩
  · cases hv
  · simp only [Value.slice.injEq, Option.some.injEq, Addr.mk.injEq, and_true, true_and] at hv
    obtain ⟨rfl, rfl⟩ := hv
    have hms : m * s ≤ n * s := Nat.mul_le_mul_right _ hm
    refine ⟨by rw [List.length_take]; omega, .inr ⟨g, cap, cur, rfl, hb, hg, by omega, hmx, hs, ?_⟩⟩
    rw [← ht, List.take_take, Nat.min_eq_left hms]

/-- A list of rules read out of a row of cells. -/
theorem ru_of_cells {w : World} {base : Nat} {v : Value} {n : Nat} {cs : List Value} {l : List Rl} (h : w.ownsRow base 38 2 v n cs) (hn : l.length = n) (hr : ∀ (k : Nat) (r : Rl), l[k]? = some r → ∃ u1 u2, cs[k * 2]? = some u1 ∧ cs[k * 2 + 1]? = some u2 ∧ Is w u1 r.1 ∧ Is w u2 r.2 ∧ r.1.length * 8 ≤ 140737488351232 ∧ r.2.length * 8 ≤ 140737488351232) : RU w v l := by
  rcases h.2 with ⟨rfl, h0⟩ | ⟨g, cap, cur, rfl, hb, hg, hc, hm, hs, ht⟩
  · obtain rfl : l = [] := List.eq_nil_of_length_eq_zero (by omega)
    exact Row.nil (by simp [maxLen])
  · refine ⟨_, cap, by rw [hn], by omega, hm, fun _ => ⟨g, 0, rfl, (Array.getElem?_eq_some_iff.1 hg).1, fun k r hk => ?_⟩⟩
    have hlt := (List.getElem?_eq_some_iff.1 hk).1
    obtain ⟨u1, u2, q1, q2, i1, i2, b1, b2⟩ := hr k r hk
    refine ⟨b1, b2, u1, u2, ?_, ?_, i1, i2⟩
    · rw [Nat.zero_add, World.ownsRow.cellAt h (k * 2) (by omega)]
      exact q1
    · rw [Nat.zero_add, World.ownsRow.cellAt h (k * 2 + 1) (by omega)]
      exact q2

/-- Rules that are handed in, joined to a row of rules of one's own. -/
theorem join_rules13 (ty : TypeId) {wi w : World} {base n : Nat} {v mv : Value} {cs : List Value} {more : List Rl} (h : w.ownsRow base 38 2 v n cs) (hb : base ≤ w.heap.size) (hm : RU wi mv more) (hk : Below wi.heap.size wi w) (hl : (n + more.length) * 48 ≤ 140737488355328) :
    ∃ v' w' news, (Builtin.append_ #[30, 30] ty #[v, mv]).run Tryz.prog w = .ok v' w' ∧ w'.ownsRow base 38 2 v' (n + more.length) (cs ++ news) ∧ w.grownBy w' v.ownBlock ∧
      ∀ (k : Nat) (r : Rl), more[k]? = some r → ∃ u1 u2, news[k * 2]? = some u1 ∧ news[k * 2 + 1]? = some u2 ∧ Is wi u1 r.1 ∧ Is wi u2 r.2 ∧ r.1.length * 8 ≤ 140737488351232 ∧ r.2.length * 8 ≤ 140737488351232 := by
  obtain ⟨i1, hi1, hy0, hy1, hy2⟩ := info_parts info_rule
  obtain ⟨ao, cap, rfl, hao, hca, hx⟩ := hm
  by_cases h0 : more.length = 0
  · obtain rfl : more = [] := List.eq_nil_of_length_eq_zero h0
    obtain ⟨bo, bc, rfl, hbc⟩ : ∃ a c, v = .slice a n c ∧ n ≤ c := by
      rcases h.2 with ⟨hv, h9⟩ | ⟨g, cap', cur, hv, _, _, hc, _⟩
      · exact ⟨none, 0, by rw [hv, h9], by omega⟩
      · exact ⟨_, cap', hv, hc⟩
    refine ⟨_, w, [], run_append_nothing w 30 30 ty 38 i1 under_rulesU hi1 _ n bc hbc _ ?_, by rw [List.append_nil]; exact h, World.grownBy.refl _ _, fun k r hk => by simp at hk⟩
    cases ao with
    | none => exact Src.ofNil w under_rulesU _
    | some a => exact Src.ofSlice w under_rulesU a 0 _ [] (by simp) (fun j u hj => (by simp at hj)) (fun u hu => (by simp at hu))
  · obtain ⟨g, off, rfl, hg, hc⟩ := hx (by omega)
    have each : ∀ (k : Nat) (r : Rl), more[k]? = some r → ∃ u1 u2, wi.cell? ⟨g, off + k * 2, none⟩ = some u1 ∧ wi.cell? ⟨g, off + k * 2 + 1, none⟩ = some u2 ∧ Is wi u1 r.1 ∧ Is wi u2 r.2 ∧ r.1.length * 8 ≤ 140737488351232 ∧ r.2.length * 8 ≤ 140737488351232 := fun k r hr => by
      obtain ⟨b1, b2, u1, u2, c1, c2, q1, q2⟩ := hc k r hr
      exact ⟨u1, u2, c1, c2, q1, q2, b1, b2⟩
    have cell : ∀ j, j < more.length * 2 → ∃ u, wi.cell? ⟨g, off + j, none⟩ = some u ∧ u.oneCell' = true := fun j hj => by
      have hlt : j / 2 < more.length := by omega
      obtain ⟨u1, u2, c1, c2, q1, q2, _⟩ := each (j / 2) more[j / 2] (List.getElem?_eq_getElem hlt)
      by_cases he : j % 2 = 0
      · exact ⟨u1, by rw [show j = j / 2 * 2 by omega]; exact c1, is_one q1⟩
      · exact ⟨u2, by rw [show off + j = off + j / 2 * 2 + 1 by omega]; exact c2, is_one q2⟩
    obtain ⟨news, hnews⟩ : ∃ news, news = (List.range (more.length * 2)).map fun j => (wi.cell? ⟨g, off + j, none⟩).getD undef := ⟨_, rfl⟩
    have at_ : ∀ j u, j < more.length * 2 → wi.cell? ⟨g, off + j, none⟩ = some u → news[j]? = some u := fun j u hj hu => by
      rw [hnews, List.getElem?_map, List.getElem?_range hj, Option.map_some, hu]
      rfl
    have of_ : ∀ j u, news[j]? = some u → wi.cell? ⟨g, off + j, none⟩ = some u ∧ u.oneCell' = true := fun j u hu => by
      have hj : j < more.length * 2 := by
        have := (List.getElem?_eq_some_iff.1 hu).1
        rw [hnews, List.length_map, List.length_range] at this
        exact this
      obtain ⟨z, hz, h1⟩ := cell j hj
      rw [at_ j z hj hz] at hu
      cases hu
      exact ⟨hz, h1⟩
    obtain ⟨v', w', hr, g2, g3, _, _⟩ := run_append_own_at (P := Tryz.prog) w base 30 ty 38 i1 _ 2 48 under_rulesU hi1 hy0 hy1 hy2 rfl (by decide) v n cs h ⟨g, off, none⟩ more.length cap news (by rw [hnews, List.length_map, List.length_range])
      (fun j u hj => by
        rw [Addr.add_lit]
        exact (Kp.of_below hk).cell _ _ (of_ j u hj).1) (fun u hu => by
        obtain ⟨j, hj⟩ := List.getElem?_of_mem hu
        exact (of_ j u hj).2) (by unfold maxLen; omega) hl hb
    refine ⟨v', w', news, hr, g2, g3, fun k r hr => ?_⟩
    have hlt := (List.getElem?_eq_some_iff.1 hr).1
    obtain ⟨u1, u2, c1, c2, q⟩ := each k r hr
    exact ⟨u1, u2, at_ _ _ (by omega) c1, at_ _ _ (by omega) (by rw [← Nat.add_assoc]; exact c2), q⟩

/-- The pairs, cut, and others behind them. -/
theorem Pa13.more (ty : TypeId) {wi w0 w : World} {ao : Option Addr} {c m : Nat} {vs : List (Value × Value)} {l more : List Rl} {mv : Value} (h : Pa13 w0 w (.slice ao l.length c) vs l) (hm : m ≤ l.length) (hl : ∀ r ∈ l, r.1.length ≤ 1048576 ∧ r.2.length ≤ 1048576) (hi : Below wi.heap.size wi w0) (hu : RU wi mv more) (hlen : (m + more.length) * 48 ≤ 140737488355328) :
    ∃ v' w', (Builtin.append_ #[30, 30] ty #[.slice ao m c, mv]).run Tryz.prog w = .ok v' w' ∧ Below w0.heap.size w0 w' ∧ RU w' v' (l.take m ++ more) := by
  have hrow : w.ownsRow w0.heap.size 38 2 (.slice ao m c) m ((prC vs).take (m * 2)) := by
    rcases h.row.2 with ⟨hv, h0⟩ | ⟨g, cap, cur, hv, _⟩
    · have hm0 : m = 0 := by omega
      subst hm0
      simp only [Value.slice.injEq] at hv
      obtain ⟨rfl, _, rfl⟩ := hv
      rw [Nat.zero_mul, List.take_zero]
      exact World.ownsRow_nil _ _ _ _
    · simp only [Value.slice.injEq, true_and] at hv
      obtain ⟨rfl, rfl⟩ := hv
      exact own_head13 h.row hm
  obtain ⟨v', w', news, hr, g2, g3, g4⟩ := join_rules13 ty hrow h.bel.size hu (below_step hi h.bel) hlen
  have hbel : Below w0.heap.size w0 w' := h.bel.grown g3 h.bel.size (fun k hk => own_blk hrow hk)
  have hkw : Kp wi w' := Kp.of_below (below_step hi hbel)
  have hpl : (prC vs).length = l.length * 2 := h.row.1
  refine ⟨v', w', hr, hbel, ru_of_cells g2 (by rw [List.length_append, List.length_take]; omega) fun k r hk => ?_⟩
  have htl : ((prC vs).take (m * 2)).length = m * 2 := by rw [List.length_take]; omega
  by_cases hkm : k < m
  · rw [List.getElem?_append_left (by rw [List.length_take]; omega), List.getElem?_take_of_lt hkm] at hk
    have hkl := (List.getElem?_eq_some_iff.1 hk).1
    have hlv : k < vs.length := by rw [h.len]; exact hkl
    obtain ⟨q1, q2⟩ := prC_at vs k vs[k] (List.getElem?_eq_getElem hlv)
    obtain ⟨f1, f2⟩ := flat13_at (List.getElem?_eq_getElem hlv) hk
    obtain ⟨b1, b2⟩ := hl r (List.mem_of_getElem? hk)
    have o1 := h.own.own _ _ _ f1
    have o2 := h.own.own _ _ _ f2
    refine ⟨vs[k].1, vs[k].2, ?_, ?_, (o1.kept g3 (ownsRow_apart o1.2 hrow (by decide))).is, (o2.kept g3 (ownsRow_apart o2.2 hrow (by decide))).is, by omega, by omega⟩
    · rw [List.getElem?_append_left (by omega), List.getElem?_take_of_lt (by omega)]
      exact q1
    · rw [List.getElem?_append_left (by omega), List.getElem?_take_of_lt (by omega)]
      exact q2
  · have hlm : (l.take m).length = m := by rw [List.length_take]; omega
    rw [List.getElem?_append_right (by omega), hlm] at hk
    obtain ⟨u1, u2, c1, c2, i1, i2, b1, b2⟩ := g4 (k - m) r hk
    refine ⟨u1, u2, ?_, ?_, i1.kp hkw, i2.kp hkw, b1, b2⟩
    · rw [List.getElem?_append_right (by omega), htl, show k * 2 - m * 2 = (k - m) * 2 by omega]
      exact c1
    · rw [List.getElem?_append_right (by omega), htl, show k * 2 + 1 - m * 2 = (k - m) * 2 + 1 by omega]
      exact c2

set_option maxRecDepth 100000 in
set_option maxHeartbeats 3200000 in
theorem pairsGraph_any (sv rv mv : Value) (sig : List Sy) (rs more : List Rl) (w : World) (hs : Sg w sv sig) (hr : RU w rv rs) (hm : RU w mv more) (hT : Tabs w) (hn : more.length ≤ 1048000) (hb : ∀ p ∈ more, p.1.length ≤ 1048576 ∧ p.2.length ≤ 1048576) :
    Calls Tryz.prog 6 #[.agg #[sv, rv], mv] w fun e w' => e = .returned (.bool true) ∧ Below w.heap.size w w' := by
  obtain ⟨so, sc, rfl, hso, hsc, _⟩ := Row.flat hs
  obtain ⟨ro, rc, rfl, hro, hrc, _⟩ := Row.flat hr
  have HS := hid hs
  have HR := hid hr
  have HM := hid hm
  have HT := hid hT
  have HMb := hid hb
  obtain ⟨mo, mc, rfl, _, _, _⟩ := Row.flat hm
  clear hs hr hT hm hb
  obtain ⟨w0, hw0⟩ : ∃ X, X = w.alloc (.cells #[.slice so sig.length sc, .slice ro rs.length rc] 32) := ⟨_, rfl⟩
  have C0 : Hid (Below w.heap.size w w0) := by rw [hw0]; exact below_alloc _
  have HC : Hid (∀ W, Below w0.heap.size w0 W → W.cell? ⟨w.heap.size, 0, none⟩ = some (.slice so sig.length sc) ∧ W.cell? ⟨w.heap.size, 1, none⟩ = some (.slice ro rs.length rc)) := fun W hW => by
    have hk := Kp.of_below hW
    rw [hw0] at hk
    exact ⟨hk.cell _ _ (cell_new rfl), hk.cell _ _ (cell_new rfl)⟩
  obtain ⟨L, hL⟩ : ∃ L, L = ofL13 sig rs := ⟨_, rfl⟩
  have HFew : Hid (∀ r ∈ L, r.1.length ≤ 1048576 ∧ r.2.length ≤ 1048576) := by rw [hL]; exact of13_fewG
  obtain ⟨E, hE⟩ : ∃ E, E = ofE13 sig rs := ⟨_, rfl⟩
  have HRe : Hid (∀ W, Below w.heap.size w W → Calls Tryz.prog 13 #[.agg #[.slice so sig.length sc, .slice ro rs.length rc]] W fun e w' => ∃ v vs, e = .returned (.tuple #[v, .int .i64 E]) ∧ Pa13 W w' v vs L) := fun W hW => by
    rw [hL, hE]
    exact refOf13_any _ _ sig rs W (HS.out.kp (Kp.of_below hW)) (HR.out.kp (Kp.of_below hW))
  clear hL hE
  go_enter Tryz.func6, Tryz.ntmps6
  go_upto_region 1 with fail
  rw [← hw0]
  clear hw0
  go_wp2_with fail
  refine (shown13_any w0 (HT.out.below C0.out)).mono ?_
  rintro e w1 ⟨rfl, hb1⟩
  have B1 := hid (below_step C0.out hb1)
  have D1 := hid hb1
  obtain ⟨x0, x1⟩ := HC.out w1 hb1
  clear hb1
  go_wp2_with fail
  refine (HRe.out w1 B1.out).mono ?_
  rintro e w2 ⟨va, vsa, rfl, oa⟩
  have HA := hid oa
  obtain ⟨ao, ac, rfl, hla, hma⟩ := oa.shape
  unfold maxLen at hma
  clear oa x0 x1
  obtain ⟨m, hm⟩ : ∃ m, m = min 30 L.length := ⟨_, rfl⟩
  have hmL : m ≤ L.length := by omega
  have hm30 : m ≤ 30 := by omega
  have HMi := hid hm
  obtain ⟨v3, w3, hr3, hb3, hu3⟩ := HA.out.more 30 hmL HFew.out B1.out HM.out (by omega)
  have HR3 := hid hr3
  have D3 := hid (below_step D1.out hb3)
  have B3 := hid (below_step B1.out hb3)
  have HU3 := hid hu3
  obtain ⟨L3, hL3⟩ : ∃ L3, L3 = L.take m ++ more := ⟨_, rfl⟩
  have hL3l : L3.length ≤ 1048576 := by rw [hL3, List.length_append, List.length_take]; omega
  have HL3b : Hid (∀ p ∈ L3, p.1.length ≤ 1048576 ∧ p.2.length ≤ 1048576) := fun p hp => by
    rw [hL3] at hp
    rcases List.mem_append.1 hp with hp | hp
    · exact HFew.out p (List.mem_of_mem_take hp)
    · exact HMb.out p hp
  rw [← hL3] at HU3
  clear hr3 hb3 hu3 hm hL3
  obtain ⟨l3o, l3c, rfl, _, _, _⟩ := Row.flat HU3.out
  have HGr := hid (graph13_any _ _ _ sig rs L3 w3 (HS.out.kp (Kp.of_below B3.out)) (HR.out.kp (Kp.of_below B3.out)) HU3.out (HT.out.below B3.out) hL3l HL3b.out)
  have HRg := hid fun (W : World) (hW : Below w3.heap.size w3 W) => refGraph13_any _ _ _ sig rs L3 W (HS.out.kp (Kp.of_below (below_step B3.out hW))) (HR.out.kp (Kp.of_below (below_step B3.out hW))) (HU3.out.kp (Kp.of_below hW)) hL3l HL3b.out
  obtain ⟨G, hG⟩ : ∃ G, G = graphL13 sig rs L3 := ⟨_, rfl⟩
  rw [← hG] at HGr HRg
  clear hG
  obtain ⟨x0, x1⟩ := HC.out w3 D3.out
  go_upto_if 20 with fail
  go_cut [6] from 20 to 22 (fun x wx => x = .slice ao m ac ∧ wx = w2)
  case first =>
    by_cases h30 : 30 < L.length
    · have hd : decide (30 < L.length) = true := by simpa using h30
      have hme : m = 30 := by have := HMi.out; omega
      subst hme
      go_wp2
      go_meet
      case rel => exact ⟨rfl, rfl⟩
    · have hd : decide (30 < L.length) = false := by simpa using h30
      have hme : m = L.length := by have := HMi.out; omega
      subst hme
      go_wp2
      go_meet
      case rel => exact ⟨rfl, rfl⟩
  obtain ⟨rfl, hwx⟩ := hcut
  have hwx' := hwx.symm
  subst hwx'
  clear hwx
  go_wp2_with (first
    | (at_builtin; refine wpList_append_run rfl _ _ _ rfl _ _ rfl rfl HR3.out ?_))
  refine HGr.out.mono ?_
  rintro e w4 ⟨v4, rfl, hr4, hb4⟩
  have B4 := hid (below_step B3.out hb4)
  have D4 := hid (below_step D3.out hb4)
  have E4 := hid hb4
  have HG4 := hid hr4
  clear hb4 hr4 x0 x1 HGr
  obtain ⟨x0, x1⟩ := HC.out w4 D4.out
  go_wp2_with fail
  refine (HRg.out w4 E4.out).mono ?_
  rintro e w5 ⟨v5, rfl, hr5, hb5⟩
  have B5 := hid (below_step B4.out hb5)
  have HG5 := hid (HG4.out.kp (Kp.of_below hb5))
  have HH5 := hid hr5
  clear hb5 hr5 x0 x1 HRg
  obtain ⟨a4, c4, rfl, h41, h42, _⟩ := Row.flat HG5.out
  obtain ⟨a5, c5, rfl, h51, h52, _⟩ := Row.flat HH5.out
  unfold maxLen at h42 h52
  have hne : ((G.length : Int) != (G.length : Int)) = false := by simp
  have hne2 : (G.length != G.length) = false := by simp
  go_wp2
  go_loopw [10] (fun iv wr => ∃ i : Nat, i ≤ G.length ∧ iv = .int .i64 i ∧ Below w5.heap.size w5 wr) (fun iv _ => G.length - (intOf iv).toNat)
  case atStart => exact ⟨0, Nat.zero_le _, rfl, Below.refl _ _⟩
  case round =>
    obtain ⟨i, hi, rfl, hbl⟩ := hrel
    have HB := hid hbl
    clear hbl
    by_cases hil : i < G.length
    · obtain ⟨g6, o6, ra, ta, ca, rfl, hm6, y6, i6, _⟩ := (HG5.out.kp (Kp.of_below HB.out)).at hil
      obtain ⟨g7, o7, rb, tb, cb, rfl, hm7, y7, i7, _⟩ := (HH5.out.kp (Kp.of_below HB.out)).at hil
      rw [hm6] at hm7
      cases hm7
      have hd : decide ((i : Int) < (G.length : Int)) = true := by simpa using hil
      have HSr : Hid (∀ W, Below wr.heap.size wr W → Calls Tryz.prog 19 #[.slice ra ta.length ca, .slice rb ta.length cb] W fun e w' => e = .returned (.bool true) ∧ Below wr.heap.size wr w') := fun W hW => by
        have h9 := sameRow13_any _ _ ta ta W (i6.kp (Kp.of_below hW)) (i7.kp (Kp.of_below hW))
        rw [decide_eq_true rfl] at h9
        exact h9.mono fun e w2 ⟨he, n, hn⟩ => ⟨he, below_step hW (drawn_below hn)⟩
      clear hm6 i6 i7
      go_upto_region 13 with fail
      refine region_below (by kernel_rfl) (by kernel_rfl) ?_
      -- Q:same
      (go_big_quiet_want; go_big_quiet_op; go_big_quiet_on)
      (go_big_quiet_want; go_big_quiet_op; go_big_quiet_on)
      go_big_quiet_want
      refine ⟨.pointer (some ⟨g6, o6 + i, none⟩), fun w' hw' => ?_, ?_⟩
      · unfold Oper.quietAt; go_simp
      simp only [Act.put, List.setIfInBounds_toArray, List.set_cons_zero, List.set_cons_succ]
      go_big_quiet_on
      go_big_quiet_want
      refine ⟨.slice ra ta.length ca, fun w' hw' => ?_, ?_⟩
      · have hh0 := (Kp.of_below hw').cell _ _ y6; unfold Oper.quietAt; go_simp
      simp only [Act.put, List.setIfInBounds_toArray, List.set_cons_zero, List.set_cons_succ]
      go_big_quiet_on
      (go_big_quiet_want; go_big_quiet_op; go_big_quiet_on)
      (go_big_quiet_want; go_big_quiet_op; go_big_quiet_on)
      go_big_quiet_want
      refine ⟨.pointer (some ⟨g7, o7 + i, none⟩), fun w' hw' => ?_, ?_⟩
      · unfold Oper.quietAt; go_simp
      simp only [Act.put, List.setIfInBounds_toArray, List.set_cons_zero, List.set_cons_succ]
      go_big_quiet_on
      go_big_quiet_want
      refine ⟨.slice rb ta.length cb, fun w' hw' => ?_, ?_⟩
      · have hh0 := (Kp.of_below hw').cell _ _ y7; unfold Oper.quietAt; go_simp
      simp only [Act.put, List.setIfInBounds_toArray, List.set_cons_zero, List.set_cons_succ]
      go_big_quiet_on
      go_big_quiet_want
      refine ⟨.bool true, fun w' hw' => ?_, ?_⟩
      · unfold Oper.quietAt; go_simp; exact HSr.out w' hw'
      simp only [Act.put, List.setIfInBounds_toArray, List.set_cons_zero, List.set_cons_succ]
      go_big_quiet_on
      (go_big_quiet_want; go_big_quiet_op; go_big_quiet_on)
      refine wpQuiet_nil ?_
      -- E:same
      intro w9 hb9
      have HB9 := hid (below_step HB.out hb9)
      clear hb9 HSr y6 y7
      go_wp2
      go_roundw
      case rel => exact ⟨i + 1, hil, by go_num, HB9.out⟩
      case measure => simp only [intOf]; omega
    · have hd : decide ((i : Int) < (G.length : Int)) = false := by simpa using hil
      have B9 := hid (below_step B5.out HB.out)
      go_wp2
      go_ret
      exact ⟨rfl, B9.out⟩

end Go.Proofs.YtoapgbaibpkckaaGreatDoor
