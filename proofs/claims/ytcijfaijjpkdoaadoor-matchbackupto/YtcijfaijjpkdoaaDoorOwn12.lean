/- Texts of the proof, one behind the other. -/
import Derived.Test.YtcijfaijjpkdoaaDoorOwn10
import Derived.Test.YtcijfaijjpkdoaaDoorOwn4
import Derived.Test.YtcijfaijjpkdoaaDoorOwn9
import Derived.Test.YtcijfaijjpkdoaaDoorOwn11
/- What the law file's helpers do: same, lent, kept, spoil, three, which. -/
namespace Go.Proofs.YtcijfaijjpkdoaaDoor
open Go.RowKit Go.Maps Go.BigFrame

theorem join_two (ty : TypeId) {w : World} {base : Nat} {x u : Value} {xs es : List Int} (ho : OwI w base x xs) (hs : Is w u es) (hb : base ≤ w.heap.size) (hl : (xs.length + es.length) * 8 ≤ 140737488355328) :
    ∃ v' w', (Builtin.append_ #[23, 23] ty #[x, u]).run Tryd.prog w = .ok v' w' ∧ OwI w' base v' (xs ++ es) ∧ w.grownBy w' x.ownBlock ∧ (v'.ownBlock = x.ownBlock ∨ v'.ownBlock = some w.heap.size) := by
  obtain ⟨i0, hi, hz0, hz1, hz2⟩ := info_parts info_int
  have hZ : ZI es := fun k x hk => by
    obtain ⟨ao, cap, rfl, _, _, hx⟩ := Row.flat hs
    obtain ⟨_, _, y, _, hy, h1, h2, _⟩ := hx k (List.getElem?_eq_some_iff.1 hk).1
    rw [hk] at hy
    cases hy
    exact ⟨h1, h2⟩
  have hZ2 : ZI (xs ++ es) := fun k y hk => by
    by_cases hkl : k < xs.length
    · rw [List.getElem?_append_left hkl] at hk
      exact ho.1 k y hk
    · rw [List.getElem?_append_right (by omega)] at hk
      exact hZ _ y hk
  obtain ⟨ao, cap, rfl, hc, hm, hx⟩ := hs
  by_cases h0 : es.length = 0
  · obtain rfl : es = [] := List.eq_nil_of_length_eq_zero h0
    obtain ⟨bo, bc, rfl, hbc, _⟩ := ho.shape
    refine ⟨_, w, run_append_nothing w 23 23 ty 3 i0 under_ints hi _ xs.length bc hbc _ ?_, by rw [List.append_nil]; exact ho, World.grownBy.refl _ _, .inl rfl⟩
    cases ao with
    | none => exact Src.ofNil w under_ints _
    | some a => exact Src.ofSlice w under_ints a 0 _ [] (by simp) (fun j u hj => (by simp at hj)) (fun u hu => (by simp at hu))
  · obtain ⟨g', off, rfl, hg, hcell⟩ := hx (by omega)
    obtain ⟨v', w', hr, h2, h3, _, h5⟩ := run_append_own_at (P := Tryd.prog) w base 23 ty 3 i0 _ 1 8 under_ints hi hz0 hz1 hz2 rfl (by decide) _ xs.length (xs.map I64) ho.2 ⟨g', off, none⟩ es.length cap (es.map I64) (by simp) (fun j u hj => by
      rw [List.getElem?_map] at hj
      cases hk : es[j]? with
      | none => rw [hk] at hj; simp at hj
      | some x =>
        rw [hk] at hj
        simp at hj
        subst hj
        rw [Addr.add_lit]
        have := (hcell j x hk).2.2
        rw [Nat.mul_one] at this
        exact this) (fun u hu => by obtain ⟨x, _, rfl⟩ := List.mem_map.1 hu; rfl) (by unfold maxLen; omega) (by omega) hb
    refine ⟨v', w', hr, ⟨hZ2, ?_⟩, h3, h5⟩
    rw [List.length_append, List.map_append]
    exact h2

theorem I64_one (xs : List Int) : ∀ u ∈ xs.map I64, u.oneCell' = true := fun u hu => by obtain ⟨x, _, rfl⟩ := List.mem_map.1 hu; rfl

theorem run_copy_ints {w : World} {base g n cap cap' : Nat} {ao : Option Addr} {zs xs : List Int} (ho : OwI w base (.slice (some ⟨g, 0, none⟩) n cap) zs) (hn : n = zs.length)
    (hs : Is w (.slice ao xs.length cap') xs) (hle : xs.length ≤ n) :
    ∃ w', (Builtin.copy_ #[23, 23] 3 #[.slice (some ⟨g, 0, none⟩) n cap, .slice ao xs.length cap']).run Tryd.prog w = .ok (goInt xs.length) w' ∧
      OwI w' base (.slice (some ⟨g, 0, none⟩) n cap) (xs ++ zs.drop xs.length) ∧ w.grownBy w' (some g) := by
  subst hn
  have hsz : (Tryd.prog.info? 3).map (·.size) = some 1 := by kernel_rfl
  by_cases h0 : xs.length = 0
  · obtain rfl : xs = [] := List.eq_nil_of_length_eq_zero h0
    have := run_copy_none (P := Tryd.prog) w 23 23 3 3 (some ⟨g, 0, none⟩) ao zs.length cap 0 cap' under_ints hsz (by simp)
    exact ⟨w, this, by simpa using ho, World.grownBy.refl _ _⟩
  · have hZ := hs.range
    obtain ⟨ao', c', hv, hc, hm, hx⟩ := hs
    simp only [Value.slice.injEq] at hv
    obtain ⟨rfl, _, rfl⟩ := hv
    obtain ⟨g', off, rfl, hg, hx⟩ := hx (by omega)
    rcases ho.2.2 with ⟨hv, _⟩ | ⟨g2, cap2, cur, hv, hb, hg2, hc2, hm2, hs2, ht2⟩
    · simp at hv
    · simp only [Value.slice.injEq, Option.some.injEq, Addr.mk.injEq, and_true, true_and] at hv
      obtain ⟨rfl, rfl⟩ := hv
      have hmin : xs.length = Nat.min xs.length zs.length := (Nat.min_eq_left hle).symm
      have hcur : zs.length ≤ cur.size := by omega
      have := run_copy_row (P := Tryd.prog) w 23 23 3 3 g 0 zs.length cap ⟨g', off, none⟩ xs.length cap' cur 3 (xs.map I64) under_ints hsz hg2
        (by simpa using hmin) (by
          intro j v hj
          simp only [List.getElem?_map, Option.map_eq_some_iff] at hj
          obtain ⟨x, hx1, rfl⟩ := hj
          rw [Addr.add_lit]
          have := (hx j x hx1).2.2
          rw [Nat.mul_one] at this
          exact this) (by simp; omega) (I64_one xs)
      refine ⟨_, by simpa using this, ⟨?_, ?_, .inr ⟨g, cap, _, by rw [List.length_append, List.length_drop, show xs.length + (zs.length - xs.length) = zs.length by omega], hb, setRow_heap w g cur _ 3 _ hg2, ?_, hm2, ?_, ?_⟩⟩, ?_⟩
      · intro k y hk
        by_cases hkl : k < xs.length
        · rw [List.getElem?_append_left hkl] at hk
          exact hZ k y hk
        · rw [List.getElem?_append_right (by omega), List.getElem?_drop] at hk
          exact ho.1 _ y hk
      · simp
      · simp; omega
      · simp; omega
      · have hl : (xs.map I64).length = xs.length := by simp
        rw [List.length_append, List.length_drop, show xs.length + (zs.length - xs.length) = zs.length by omega]
        simp only [List.map_append, List.map_drop, ← ht2, List.drop_take, Nat.mul_one]
        rw [List.take_append, hl, List.take_of_length_le (by simp; omega)]
      · exact ⟨rfl, rfl, rfl, by simp [World.setRow], fun k _ hk => setRow_other w g k _ (fun e => hk (by simp [e]))⟩

/-- A row and three marks behind it. -/
def marked (xs : List Int) : List Int := xs ++ [77, 77, 77]

theorem mark_step (xs R : List Int) (k : Nat) : (xs ++ List.replicate k 77) ++ 77 :: R = (xs ++ List.replicate (k + 1) 77) ++ R := by
  rw [List.replicate_succ']; simp

theorem get_midI {α : Type} {L : List α} {x : α} {R : List α} {k : Nat} (hk : L.length = k) : (L ++ x :: R)[k]? = some x := by subst hk; simp

theorem marked_lo {xs : List Int} {k : Nat} {x : Int} (h : xs[k]? = some x) : (marked xs)[k]? = some x := by
  have hk := (List.getElem?_eq_some_iff.1 h).1
  unfold marked
  rw [List.getElem?_append_left hk, h]

theorem marked_hi {xs : List Int} {k : Nat} (h1 : ¬ k < xs.length) (h2 : k < xs.length + 3) : (marked xs)[k]? = some 77 := by
  unfold marked
  rw [List.getElem?_append_right (by omega)]
  obtain ⟨j, rfl⟩ : ∃ j, k = xs.length + j := ⟨k - xs.length, by omega⟩
  rw [Nat.add_sub_cancel_left]
  match j, (by omega : j < 3) with
  | 0, _ => rfl
  | 1, _ => rfl
  | 2, _ => rfl

theorem cutI {w : World} {base g n cap : Nat} {xs ys : List Int} (h : OwI w base (.slice (some ⟨g, 0, none⟩) n cap) (xs ++ ys)) : Is w (.slice (some ⟨g, 0, none⟩) xs.length cap) xs := by
  obtain ⟨ao, cp, hv, hc, hm, hx⟩ := h.is
  simp only [Value.slice.injEq] at hv
  obtain ⟨rfl, _, rfl⟩ := hv
  rw [List.length_append] at hc
  refine ⟨_, cap, rfl, by omega, hm, fun h0 => ?_⟩
  obtain ⟨g', off, e, hg, hcell⟩ := hx (by rw [List.length_append]; omega)
  simp only [Option.some.injEq, Addr.mk.injEq, and_true] at e
  obtain ⟨rfl, rfl⟩ := e
  exact ⟨g, 0, rfl, hg, fun k x hk => hcell k x (by rw [List.getElem?_append_left (List.getElem?_eq_some_iff.1 hk).1]; exact hk)⟩

theorem grown_stepT {a b c : World} {r r' : Option Nat} (h : a.grownBy b r) (h' : b.grownBy c r') (hr : ∀ g, r' = some g → r = some g ∨ a.heap.size ≤ g) : a.grownBy c r :=
  ⟨h'.os.trans h.os, h'.tape.trans h.tape, h'.output.trans h.output, Nat.le_trans h.size h'.size, fun k hk hne => (h'.block k (Nat.lt_of_lt_of_le hk h.size) (fun e => by
    rcases hr k e.symm with h1 | h1
    · exact hne h1.symm
    · omega)).trans (h.block k hk hne)⟩

/-- Which of n places. -/
def whichN (c : Int) (n : Nat) : Nat := ((if c < 0 then -(c + 1) else c) % (n : Int)).toNat

theorem which_lt (c : Int) (n : Nat) (hn : 0 < n) : whichN c n < n := by
  unfold whichN
  have h1 := Int.emod_nonneg (if c < 0 then -(c + 1) else c) (b := (n : Int)) (by omega)
  have h2 := Int.emod_lt_of_pos (if c < 0 then -(c + 1) else c) (b := (n : Int)) (by omega)
  omega

end Go.Proofs.YtcijfaijjpkdoaaDoor

/- slices.EqualFunc at rows of rows walked. -/
namespace Go.Proofs.YtcijfaijjpkdoaaDoor
open Go.RowKit Go.Maps

set_option maxRecDepth 100000 in
set_option maxHeartbeats 800000 in
theorem equalR_any (v u : Value) (xs ys : List (List Int)) (w : World) (h : Rs w v xs) (h' : Rs w u ys) :
    Calls Tryd.prog 34 #[v, u, .func (.func 36) #[] #[]] w fun e w' => e = .returned (.bool (decide (xs = ys))) ∧ ∃ n, w' = w.drewN n := by
  obtain ⟨ao, cap, rfl, hao, hca, _⟩ := Row.flat h
  obtain ⟨bo, cap', rfl, hbo, hcb, _⟩ := Row.flat h'
  unfold maxLen at hca hcb
  have HX := hid h
  have HY := hid h'
  clear h h'
  by_cases hl : xs.length = ys.length
  · have hle : ((xs.length : Int) != ys.length) = false := by simp; omega
    have HL := hid hl
    clear hl
    go_enter Tryd.func34, Tryd.ntmps34
    go_wp2
    clear hle
    go_loopw [17] (fun i wr => ∃ k : Nat, k ≤ xs.length ∧ i = .int .i64 k ∧ xs.take k = ys.take k ∧ ∃ n, wr = w.drewN n) (fun i _ => xs.length - (intOf i).toNat)
    case atStart => exact ⟨0, Nat.zero_le _, rfl, rfl, 0, rfl⟩
    case round =>
      obtain ⟨k, hk, rfl, ht, n, rfl⟩ := hrel
      have HT : Hid (xs.take k = ys.take k) := ht
      clear ht
      by_cases hlt : k < xs.length
      · have hlt' : k < ys.length := by have := HL.out; omega
        obtain ⟨g, off, a1, x, c1, rfl, hx1, hx2, hx3, _⟩ := HX.out.at hlt
        obtain ⟨g', off', a2, y, c2, rfl, hy1, hy2, hy3, _⟩ := HY.out.at hlt'
        have hx2' : (w.drewN n).cell? ⟨g, off + k, none⟩ = some (.slice a1 x.length c1) := hx2
        have hy2' : (w.drewN n).cell? ⟨g', off' + k, none⟩ = some (.slice a2 y.length c2) := hy2
        have HXk := hid hx1
        have HYk := hid hy1
        have HIx := hid (hx3.kp (Kp.drewN w n))
        have HIy := hid (hy3.kp (Kp.drewN w n))
        clear hx1 hy1 hx3 hy3 hx2 hy2
        go_wp2_with fail
        refine (equalI_any _ _ x y _ HIx.out HIy.out).mono ?_
        rintro e w2 ⟨rfl, m, rfl⟩
        clear hx2' hy2'
        by_cases hxy : x = y
        · have hd : decide (x = y) = true := by simp [hxy]
          rw [hd]
          have HN : Hid (xs.take (k + 1) = ys.take (k + 1)) := by show _ = _; rw [take_get HXk.out, take_get HYk.out, HT.out, hxy]
          clear hd hxy
          go_wp2
          go_roundw
          case rel => exact ⟨k + 1, by omega, by go_num, HN.out, _, rfl⟩
          case measure => simp only [intOf]; omega
        · have hd : decide (x = y) = false := by simp [hxy]
          rw [hd]
          have HN : Hid (decide (xs = ys) = false) := by
            show _ = _
            rw [decide_eq_false_iff_not]
            rintro rfl
            have := HXk.out.symm.trans HYk.out
            simp at this
            exact hxy this
          clear hd hxy
          go_wp2
          go_ret
          exact ⟨ret1b HN.out.symm, _, rfl⟩
      · have HF : Hid (decide (xs = ys) = true) := by
          have h9 := HT.out
          rw [List.take_of_length_le (by omega), List.take_of_length_le (by have := HL.out; omega)] at h9
          show _ = _
          simp [h9]
        go_wp2
        go_ret
        exact ⟨ret1b HF.out.symm, n, rfl⟩
  · have hle : ((xs.length : Int) != ys.length) = true := by rw [bne_iff_ne]; omega
    have HN : Hid (decide (xs = ys) = false) := by
      show _ = _
      rw [decide_eq_false_iff_not]
      rintro rfl
      exact hl rfl
    clear hl
    go_enter Tryd.func34, Tryd.ntmps34
    go_wp2
    go_ret
    exact ⟨ret1b HN.out.symm, 0, rfl⟩

end Go.Proofs.YtcijfaijjpkdoaaDoor

/- Variant of package match walked. -/
namespace Go.Proofs.YtcijfaijjpkdoaaDoor
open Go.RowKit Go.Maps

theorem drawnN_below (w : World) (n : Nat) : Below w.heap.size w (w.drewN n) := drawn_below rfl

theorem canL_len (l : List (List Int)) : (canL l).length = l.length := canL_length l

theorem canL_small {p q : List Int} (h1 : p.length * 8 ≤ 140737488351232) (h2 : q.length * 8 ≤ 140737488351232) : ∀ t ∈ canL [p, q], t.length * 8 ≤ 140737488351232 := by
  refine lens_small (l := [p, q]) (canG_lens _ _) fun t ht => ?_
  simp only [List.mem_cons, List.not_mem_nil, or_false] at ht
  rcases ht with rfl | rfl
  · exact h1
  · exact h2

theorem rs_four {w : World} {v1 v2 v3 v4 : Value} {p q r s : List Int} (i1 : Is w v1 p) (i2 : Is w v2 q) (i3 : Is w v3 r) (i4 : Is w v4 s) (h1 : p.length * 8 ≤ 140737488351232) (h2 : q.length * 8 ≤ 140737488351232) (h3 : r.length * 8 ≤ 140737488351232) (h4 : s.length * 8 ≤ 140737488351232) : Rs (w.alloc (.cells #[v1, v2, v3, v4] 23)) (.slice (some ⟨w.heap.size, 0, none⟩) 4 4) [p, q, r, s] := by
  have hk := Kp.of_below (below_alloc (w := w) (.cells #[v1, v2, v3, v4] 23))
  refine ⟨_, 4, rfl, Nat.le_refl _, by simp [maxLen], fun _ => ⟨w.heap.size, 0, rfl, by simp, fun k x hx => ?_⟩⟩
  match k, hx with
  | 0, hx => simp at hx; subst hx; exact ⟨h1, v1, cell_new rfl, i1.kp hk⟩
  | 1, hx => simp at hx; subst hx; exact ⟨h2, v2, cell_new rfl, i2.kp hk⟩
  | 2, hx => simp at hx; subst hx; exact ⟨h3, v3, cell_new rfl, i3.kp hk⟩
  | 3, hx => simp at hx; subst hx; exact ⟨h4, v4, cell_new rfl, i4.kp hk⟩
  | k + 4, hx => simp at hx

set_option maxRecDepth 100000 in
set_option maxHeartbeats 3200000 in
theorem variant_any (sv v1 v2 v3 v4 : Value) (sig : List Sy) (p q r s : List Int) (w : World) (hs : Sg w sv sig) (h1 : Is w v1 p) (h2 : Is w v2 q) (h3 : Is w v3 r) (h4 : Is w v4 s) (hT : Tabs w) (l1 : p.length * 8 ≤ 140737488351232) (l2 : q.length * 8 ≤ 140737488351232) (l3 : r.length * 8 ≤ 140737488351232) (l4 : s.length * 8 ≤ 140737488351232) :
    Calls Tryd.prog 14 #[sv, .agg #[v1, v2], .agg #[v3, v4]] w fun e w' => e = .returned (.bool (termsB sig [p, q, r, s] && decide (canL [p, q] = canL [r, s]))) ∧ Below w.heap.size w w' := by
  obtain ⟨a1, c1, e1, _⟩ := h1.flatI
  obtain ⟨a2, c2, e2, _⟩ := h2.flatI
  obtain ⟨a3, c3, e3, _⟩ := h3.flatI
  obtain ⟨a4, c4, e4, _⟩ := h4.flatI
  subst e1
  subst e2
  subst e3
  subst e4
  have HS := hid hs
  have HTa := hid hT
  have HI1 := hid h1
  have HI2 := hid h2
  have HI3 := hid h3
  have HI4 := hid h4
  have HLp := hid l1
  have HLq := hid l2
  have HLr := hid l3
  have HLs := hid l4
  clear hs hT h1 h2 h3 h4 l1 l2 l3 l4
  obtain ⟨w0, hw0⟩ : ∃ X, X = (w.alloc (.cells #[.slice a1 p.length c1, .slice a2 q.length c2] 34)).alloc (.cells #[.slice a3 r.length c3, .slice a4 s.length c4] 34) := ⟨_, rfl⟩
  have hB0 : Below w.heap.size w w0 := by rw [hw0]; exact below_step (below_alloc _) (below_alloc _)
  have hy0 : w0.cell? ⟨w.heap.size, 0, none⟩ = some (.slice a1 p.length c1) := by rw [hw0]; exact cell_old (cell_new rfl)
  have hy1 : w0.cell? ⟨w.heap.size, 1, none⟩ = some (.slice a2 q.length c2) := by rw [hw0]; exact cell_old (cell_new rfl)
  have hy2 : w0.cell? ⟨w.heap.size + 1, 0, none⟩ = some (.slice a3 r.length c3) := by rw [hw0]; exact cell_newg (by simp) rfl
  have hy3 : w0.cell? ⟨w.heap.size + 1, 1, none⟩ = some (.slice a4 s.length c4) := by rw [hw0]; exact cell_newg (by simp) rfl
  have HB0 := hid hB0
  clear hB0
  go_enter Tryd.func14, Tryd.ntmps14
  go_upto_region 1 with fail
  rw [← hw0]
  clear hw0
  go_wp2_with fail
  have hk0 := Kp.of_below HB0.out
  refine (areTerms_any sv _ sig [p, q, r, s] _ (HS.out.kp (hk0.trans (Kp.of_below (below_alloc _)))) (rs_four (HI1.out.kp hk0) (HI2.out.kp hk0) (HI3.out.kp hk0) (HI4.out.kp hk0) HLp.out HLq.out HLr.out HLs.out) (HTa.out.below (below_step HB0.out (below_alloc _)))).mono ?_
  rintro e wA ⟨rfl, hbA⟩
  have hbA0 := below_step (below_alloc _) hbA
  have hkA := Kp.of_below hbA0
  have hx0 := hkA.cell _ _ hy0
  have hx1 := hkA.cell _ _ hy1
  have hx2 := hkA.cell _ _ hy2
  have hx3 := hkA.cell _ _ hy3
  have HBw := hid (below_step HB0.out hbA0)
  have HIp := hid (HI1.out.kp (hk0.trans hkA))
  have HIq := hid (HI2.out.kp (hk0.trans hkA))
  have HIr := hid (HI3.out.kp (hk0.trans hkA))
  have HIs := hid (HI4.out.kp (hk0.trans hkA))
  clear hbA hbA0 hkA hy0 hy1 hy2 hy3 hk0
  cases htb : termsB sig [p, q, r, s] with
  | true =>
    have HTb := hid htb
    clear htb
    go_upto_region 3 with fail
    have hS : Kp wA wA.drew := Kp.of_below (drawn_below1 wA)
    refine wp_region_held_drew (S := fun w' => Kp wA w') (by kernel_rfl) hS (fun _ => ?_)
    obtain ⟨W0, hW0⟩ : ∃ X, X = wA.drew := ⟨_, rfl⟩
    have bW0 : Below wA.heap.size wA W0 := by rw [hW0]; exact drawn_below1 wA
    rw [← hW0] at hS ⊢
    clear hW0
    refine wpAnyH_take (i := 0) (v := .pointer (some ⟨w.heap.size, 0, none⟩)) rfl (by kernel_rfl) (by kernel_rfl) (by kernel_rfl) (fun _ _ _ h => h) (Or.inl ⟨by rfl, fun w' h => by go_simp⟩) hS ?_
    simp only [Act.put, List.setIfInBounds_toArray]
    refine wpAnyH_take (i := 1) (v := .slice a1 p.length c1) rfl (by kernel_rfl) (by kernel_rfl) (by kernel_rfl) (fun _ _ _ h => h) (Or.inl ⟨by rfl, fun w' h => by have hh0 := h.cell _ _ hx0; go_simp⟩) hS ?_
    simp only [Act.put]
    refine wpAnyH_take (i := 2) (v := .pointer (some ⟨w.heap.size, 1, none⟩)) rfl (by kernel_rfl) (by kernel_rfl) (by kernel_rfl) (fun _ _ _ h => h) (Or.inl ⟨by rfl, fun w' h => by go_simp⟩) hS ?_
    simp only [Act.put]
    refine wpAnyH_take (i := 3) (v := .slice a2 q.length c2) rfl (by kernel_rfl) (by kernel_rfl) (by kernel_rfl) (fun _ _ _ h => h) (Or.inl ⟨by rfl, fun w' h => by have hh0 := h.cell _ _ hx1; go_simp⟩) hS ?_
    simp only [Act.put]
    refine wpAnyH_take (i := 6) (v := .pointer (some ⟨w.heap.size + 1, 0, none⟩)) rfl (by kernel_rfl) (by kernel_rfl) (by kernel_rfl) (fun _ _ _ h => h) (Or.inl ⟨by rfl, fun w' h => by go_simp⟩) hS ?_
    simp only [Act.put]
    refine wpAnyH_take (i := 7) (v := .slice a3 r.length c3) rfl (by kernel_rfl) (by kernel_rfl) (by kernel_rfl) (fun _ _ _ h => h) (Or.inl ⟨by rfl, fun w' h => by have hh0 := h.cell _ _ hx2; go_simp⟩) hS ?_
    simp only [Act.put]
    refine wpAnyH_take (i := 8) (v := .pointer (some ⟨w.heap.size + 1, 1, none⟩)) rfl (by kernel_rfl) (by kernel_rfl) (by kernel_rfl) (fun _ _ _ h => h) (Or.inl ⟨by rfl, fun w' h => by go_simp⟩) hS ?_
    simp only [Act.put]
    refine wpAnyH_take (i := 9) (v := .slice a4 s.length c4) rfl (by kernel_rfl) (by kernel_rfl) (by kernel_rfl) (fun _ _ _ h => h) (Or.inl ⟨by rfl, fun w' h => by have hh0 := h.cell _ _ hx3; go_simp⟩) hS ?_
    simp only [Act.put]
    skip
    refine wpAnyH_ready (rs := [4, 10]) (by kernel_rfl) (by simp) (AllReadyH.cons rfl (fun K hK => ?_) (AllReadyH.cons rfl (fun K hK => ?_) (AllReadyH.nil)))
    · skip
      go_simp
      refine hK.out _ _ (hS.trans (Kp.of_below (below_alloc _))) (fun hSX1 => ?_)
      clear hK K
      try simp only [Act.put, List.setIfInBounds_toArray]
      have hRa := rs_two (HIp.out.kp hS) (HIq.out.kp hS) HLp.out HLq.out
      have gva : ∃ G, G = (W0).heap.size := ⟨_, rfl⟩
      obtain ⟨Ga, hGa⟩ := gva
      obtain ⟨X1, hX1⟩ : ∃ X, X = (W0).alloc (.cells #[.slice a1 p.length c1, .slice a2 q.length c2] 23) := ⟨_, rfl⟩
      have bbX1 : Below (W0).heap.size (W0) X1 := by rw [hX1]; exact below_alloc _
      rw [← hX1, ← hGa] at hRa
      rw [← hX1] at hSX1
      rw [← hX1, ← hGa]
      have HRa := hid hRa
      clear hX1 hGa hRa
      refine wpAnyH_ready (rs := [5, 10]) (by kernel_rfl) (by simp) (AllReadyH.cons rfl (fun K hK => ?_) (AllReadyH.cons rfl (fun K hK => ?_) (AllReadyH.nil)))
      · skip
        go_simp
        refine (canon_any _ [p, q] X1 (HRa.out) (by simp) (by have := HLp.out; have := HLq.out; simp; omega)).mono ?_
        rintro e X2 ⟨va, vsa, rfl, hoa, hwa, bbX2⟩
        have HCa : Hid (Rs X2 va (canL [p, q])) := rs_of_own (by rw [canL_len]; exact hoa) hwa (canL_small HLp.out HLq.out)
        clear hoa hwa
        refine hK.out _ _ (hSX1.trans (Kp.of_below bbX2)) (fun hSX2 => ?_)
        clear hK K
        try simp only [Act.put, List.setIfInBounds_toArray]
        refine wpAnyH_ready (rs := [10]) (by kernel_rfl) (by simp) (AllReadyH.cons rfl (fun K hK => ?_) (AllReadyH.nil))
        go_simp
        refine hK.out _ _ (hSX2.trans (Kp.of_below (below_alloc _))) (fun hSX3 => ?_)
        clear hK K
        try simp only [Act.put, List.setIfInBounds_toArray]
        have hRb := rs_two (HIr.out.kp hSX2) (HIs.out.kp hSX2) HLr.out HLs.out
        have gvb : ∃ G, G = (X2).heap.size := ⟨_, rfl⟩
        obtain ⟨Gb, hGb⟩ := gvb
        obtain ⟨X3, hX3⟩ : ∃ X, X = (X2).alloc (.cells #[.slice a3 r.length c3, .slice a4 s.length c4] 23) := ⟨_, rfl⟩
        have bbX3 : Below (X2).heap.size (X2) X3 := by rw [hX3]; exact below_alloc _
        rw [← hX3, ← hGb] at hRb
        rw [← hX3] at hSX3
        rw [← hX3, ← hGb]
        have HRb := hid hRb
        clear hX3 hGb hRb
        refine wpAnyH_ready (rs := [11]) (by kernel_rfl) (by simp) (AllReadyH.cons rfl (fun K hK => ?_) (AllReadyH.nil))
        go_simp
        refine (canon_any _ [r, s] X3 (HRb.out) (by simp) (by have := HLr.out; have := HLs.out; simp; omega)).mono ?_
        rintro e X4 ⟨vb, vsb, rfl, hob, hwb, bbX4⟩
        have HCb : Hid (Rs X4 vb (canL [r, s])) := rs_of_own (by rw [canL_len]; exact hob) hwb (canL_small HLr.out HLs.out)
        clear hob hwb
        refine hK.out _ _ (hSX3.trans (Kp.of_below bbX4)) (fun hSX4 => ?_)
        clear hK K
        try simp only [Act.put, List.setIfInBounds_toArray]
        refine wpAnyH_ready (rs := [12]) (by kernel_rfl) (by simp) (AllReadyH.cons rfl (fun K hK => ?_) (AllReadyH.nil))
        go_simp
        refine (equalR_any va vb (canL [p, q]) (canL [r, s]) X4 (HCa.out.kp ((Kp.of_below bbX3).trans (Kp.of_below bbX4))) HCb.out).mono ?_
        rintro e X9 ⟨rfl, m9, hw9⟩
        have bb9 : Below X4.heap.size X4 X9 := by rw [hw9]; exact drawnN_below X4 m9
        clear hw9
        refine hK.out _ _ (hSX4.trans (Kp.of_below bb9)) (fun hS9 => ?_)
        clear hK K
        try simp only [Act.put, List.setIfInBounds_toArray]
        refine wpAnyH_take (i := 13) (v := .bool (decide (canL [p, q] = canL [r, s]))) rfl (by kernel_rfl) (by kernel_rfl) (by kernel_rfl) (fun _ _ _ h => h) (Or.inl ⟨by rfl, fun w' h => by go_simp⟩) hS9 ?_
        simp only [Act.put]
        refine wpAnyH_done (by kernel_rfl) ?_ _
        have HZ := hid (below_step (below_step (below_step (below_step (below_step (bW0) bbX1) bbX2) bbX3) bbX4) bb9)
        obtain ⟨D, hD⟩ : ∃ D, D = decide (canL [p, q] = canL [r, s]) := ⟨_, rfl⟩
        rw [← hD]
        have HD := hid hD
        clear hD
        try simp only [List.getElem_toArray, List.getElem_cons_succ, List.getElem_cons_zero, List.setIfInBounds_toArray, List.set_cons_succ, List.set_cons_zero]
        go_wp2
        go_ret
        refine ⟨?_, below_step HBw.out HZ.out⟩
        show Ending.returned (.bool D) = _
        rw [HD.out, HTb.out, Bool.true_and]
      · skip
        go_simp
        refine hK.out _ _ (hSX1.trans (Kp.of_below (below_alloc _))) (fun hSX5 => ?_)
        clear hK K
        try simp only [Act.put, List.setIfInBounds_toArray]
        have hRb := rs_two (HIr.out.kp hSX1) (HIs.out.kp hSX1) HLr.out HLs.out
        have gvb : ∃ G, G = (X1).heap.size := ⟨_, rfl⟩
        obtain ⟨Gb, hGb⟩ := gvb
        obtain ⟨X5, hX5⟩ : ∃ X, X = (X1).alloc (.cells #[.slice a3 r.length c3, .slice a4 s.length c4] 23) := ⟨_, rfl⟩
        have bbX5 : Below (X1).heap.size (X1) X5 := by rw [hX5]; exact below_alloc _
        rw [← hX5, ← hGb] at hRb
        rw [← hX5] at hSX5
        rw [← hX5, ← hGb]
        have HRb := hid hRb
        clear hX5 hGb hRb
        refine wpAnyH_ready (rs := [5]) (by kernel_rfl) (by simp) (AllReadyH.cons rfl (fun K hK => ?_) (AllReadyH.nil))
        go_simp
        refine (canon_any _ [p, q] X5 (HRa.out.kp (Kp.of_below bbX5)) (by simp) (by have := HLp.out; have := HLq.out; simp; omega)).mono ?_
        rintro e X6 ⟨va, vsa, rfl, hoa, hwa, bbX6⟩
        have HCa : Hid (Rs X6 va (canL [p, q])) := rs_of_own (by rw [canL_len]; exact hoa) hwa (canL_small HLp.out HLq.out)
        clear hoa hwa
        refine hK.out _ _ (hSX5.trans (Kp.of_below bbX6)) (fun hSX6 => ?_)
        clear hK K
        try simp only [Act.put, List.setIfInBounds_toArray]
        refine wpAnyH_ready (rs := [11]) (by kernel_rfl) (by simp) (AllReadyH.cons rfl (fun K hK => ?_) (AllReadyH.nil))
        go_simp
        refine (canon_any _ [r, s] X6 (HRb.out.kp (Kp.of_below bbX6)) (by simp) (by have := HLr.out; have := HLs.out; simp; omega)).mono ?_
        rintro e X7 ⟨vb, vsb, rfl, hob, hwb, bbX7⟩
        have HCb : Hid (Rs X7 vb (canL [r, s])) := rs_of_own (by rw [canL_len]; exact hob) hwb (canL_small HLr.out HLs.out)
        clear hob hwb
        refine hK.out _ _ (hSX6.trans (Kp.of_below bbX7)) (fun hSX7 => ?_)
        clear hK K
        try simp only [Act.put, List.setIfInBounds_toArray]
        refine wpAnyH_ready (rs := [12]) (by kernel_rfl) (by simp) (AllReadyH.cons rfl (fun K hK => ?_) (AllReadyH.nil))
        go_simp
        refine (equalR_any va vb (canL [p, q]) (canL [r, s]) X7 (HCa.out.kp (Kp.of_below bbX7)) HCb.out).mono ?_
        rintro e X9 ⟨rfl, m9, hw9⟩
        have bb9 : Below X7.heap.size X7 X9 := by rw [hw9]; exact drawnN_below X7 m9
        clear hw9
        refine hK.out _ _ (hSX7.trans (Kp.of_below bb9)) (fun hS9 => ?_)
        clear hK K
        try simp only [Act.put, List.setIfInBounds_toArray]
        refine wpAnyH_take (i := 13) (v := .bool (decide (canL [p, q] = canL [r, s]))) rfl (by kernel_rfl) (by kernel_rfl) (by kernel_rfl) (fun _ _ _ h => h) (Or.inl ⟨by rfl, fun w' h => by go_simp⟩) hS9 ?_
        simp only [Act.put]
        refine wpAnyH_done (by kernel_rfl) ?_ _
        have HZ := hid (below_step (below_step (below_step (below_step (below_step (bW0) bbX1) bbX5) bbX6) bbX7) bb9)
        obtain ⟨D, hD⟩ : ∃ D, D = decide (canL [p, q] = canL [r, s]) := ⟨_, rfl⟩
        rw [← hD]
        have HD := hid hD
        clear hD
        try simp only [List.getElem_toArray, List.getElem_cons_succ, List.getElem_cons_zero, List.setIfInBounds_toArray, List.set_cons_succ, List.set_cons_zero]
        go_wp2
        go_ret
        refine ⟨?_, below_step HBw.out HZ.out⟩
        show Ending.returned (.bool D) = _
        rw [HD.out, HTb.out, Bool.true_and]
    · skip
      go_simp
      refine hK.out _ _ (hS.trans (Kp.of_below (below_alloc _))) (fun hSX8 => ?_)
      clear hK K
      try simp only [Act.put, List.setIfInBounds_toArray]
      have hRb := rs_two (HIr.out.kp hS) (HIs.out.kp hS) HLr.out HLs.out
      have gvb : ∃ G, G = (W0).heap.size := ⟨_, rfl⟩
      obtain ⟨Gb, hGb⟩ := gvb
      obtain ⟨X8, hX8⟩ : ∃ X, X = (W0).alloc (.cells #[.slice a3 r.length c3, .slice a4 s.length c4] 23) := ⟨_, rfl⟩
      have bbX8 : Below (W0).heap.size (W0) X8 := by rw [hX8]; exact below_alloc _
      rw [← hX8, ← hGb] at hRb
      rw [← hX8] at hSX8
      rw [← hX8, ← hGb]
      have HRb := hid hRb
      clear hX8 hGb hRb
      refine wpAnyH_ready (rs := [4]) (by kernel_rfl) (by simp) (AllReadyH.cons rfl (fun K hK => ?_) (AllReadyH.nil))
      go_simp
      refine hK.out _ _ (hSX8.trans (Kp.of_below (below_alloc _))) (fun hSX9 => ?_)
      clear hK K
      try simp only [Act.put, List.setIfInBounds_toArray]
      have hRa := rs_two (HIp.out.kp hSX8) (HIq.out.kp hSX8) HLp.out HLq.out
      have gva : ∃ G, G = (X8).heap.size := ⟨_, rfl⟩
      obtain ⟨Ga, hGa⟩ := gva
      obtain ⟨X9, hX9⟩ : ∃ X, X = (X8).alloc (.cells #[.slice a1 p.length c1, .slice a2 q.length c2] 23) := ⟨_, rfl⟩
      have bbX9 : Below (X8).heap.size (X8) X9 := by rw [hX9]; exact below_alloc _
      rw [← hX9, ← hGa] at hRa
      rw [← hX9] at hSX9
      rw [← hX9, ← hGa]
      have HRa := hid hRa
      clear hX9 hGa hRa
      refine wpAnyH_ready (rs := [5]) (by kernel_rfl) (by simp) (AllReadyH.cons rfl (fun K hK => ?_) (AllReadyH.nil))
      go_simp
      refine (canon_any _ [p, q] X9 (HRa.out) (by simp) (by have := HLp.out; have := HLq.out; simp; omega)).mono ?_
      rintro e X10 ⟨va, vsa, rfl, hoa, hwa, bbX10⟩
      have HCa : Hid (Rs X10 va (canL [p, q])) := rs_of_own (by rw [canL_len]; exact hoa) hwa (canL_small HLp.out HLq.out)
      clear hoa hwa
      refine hK.out _ _ (hSX9.trans (Kp.of_below bbX10)) (fun hSX10 => ?_)
      clear hK K
      try simp only [Act.put, List.setIfInBounds_toArray]
      refine wpAnyH_ready (rs := [11]) (by kernel_rfl) (by simp) (AllReadyH.cons rfl (fun K hK => ?_) (AllReadyH.nil))
      go_simp
      refine (canon_any _ [r, s] X10 (HRb.out.kp ((Kp.of_below bbX9).trans (Kp.of_below bbX10))) (by simp) (by have := HLr.out; have := HLs.out; simp; omega)).mono ?_
      rintro e X11 ⟨vb, vsb, rfl, hob, hwb, bbX11⟩
      have HCb : Hid (Rs X11 vb (canL [r, s])) := rs_of_own (by rw [canL_len]; exact hob) hwb (canL_small HLr.out HLs.out)
      clear hob hwb
      refine hK.out _ _ (hSX10.trans (Kp.of_below bbX11)) (fun hSX11 => ?_)
      clear hK K
      try simp only [Act.put, List.setIfInBounds_toArray]
      refine wpAnyH_ready (rs := [12]) (by kernel_rfl) (by simp) (AllReadyH.cons rfl (fun K hK => ?_) (AllReadyH.nil))
      go_simp
      refine (equalR_any va vb (canL [p, q]) (canL [r, s]) X11 (HCa.out.kp (Kp.of_below bbX11)) HCb.out).mono ?_
      rintro e X9 ⟨rfl, m9, hw9⟩
      have bb9 : Below X11.heap.size X11 X9 := by rw [hw9]; exact drawnN_below X11 m9
      clear hw9
      refine hK.out _ _ (hSX11.trans (Kp.of_below bb9)) (fun hS9 => ?_)
      clear hK K
      try simp only [Act.put, List.setIfInBounds_toArray]
      refine wpAnyH_take (i := 13) (v := .bool (decide (canL [p, q] = canL [r, s]))) rfl (by kernel_rfl) (by kernel_rfl) (by kernel_rfl) (fun _ _ _ h => h) (Or.inl ⟨by rfl, fun w' h => by go_simp⟩) hS9 ?_
      simp only [Act.put]
      refine wpAnyH_done (by kernel_rfl) ?_ _
      have HZ := hid (below_step (below_step (below_step (below_step (below_step (bW0) bbX8) bbX9) bbX10) bbX11) bb9)
      obtain ⟨D, hD⟩ : ∃ D, D = decide (canL [p, q] = canL [r, s]) := ⟨_, rfl⟩
      rw [← hD]
      have HD := hid hD
      clear hD
      try simp only [List.getElem_toArray, List.getElem_cons_succ, List.getElem_cons_zero, List.setIfInBounds_toArray, List.set_cons_succ, List.set_cons_zero]
      go_wp2
      go_ret
      refine ⟨?_, below_step HBw.out HZ.out⟩
      show Ending.returned (.bool D) = _
      rw [HD.out, HTb.out, Bool.true_and]
  | false =>
    have HTb := hid htb
    clear htb hx0 hx1 hx2 hx3
    go_wp2
    go_ret
    exact ⟨by have h9 := HTb.out; simp [h9], HBw.out⟩

end Go.Proofs.YtcijfaijjpkdoaaDoor

/- What the statements of layer 5 call of their own. -/
namespace Go.Proofs.YtcijfaijjpkdoaaDoor
open Go.RowKit Go.Maps Go.BigFrame

set_option maxRecDepth 100000 in
theorem three5_any (w : World) : Calls Tryd.prog 27 #[] w fun e w' => ∃ v', e = .returned v' ∧ Sg w' v' sumS ∧ Below w.heap.size w w' := by
  go_enter Tryd.func27, Tryd.ntmps27
  go_wp2
  go_ret
  refine ⟨_, rfl, sg_lit (p := sumS) (by simp) (by decide) ⟨⟨by decide, by decide, by decide, cell_new rfl, cell_new rfl⟩, ⟨by decide, by decide, by decide, cell_new rfl, cell_new rfl⟩, ⟨by decide, by decide, by decide, cell_new rfl, cell_new rfl⟩, trivial⟩, below_alloc _⟩

set_option maxHeartbeats 400000 in
theorem sameRow5_any (v u : Value) (xs ys : List Int) (w : World) (h : Is w v xs) (h' : Is w u ys) :
    Calls Tryd.prog 13 #[v, u] w fun e w' => e = .returned (.bool (decide (xs = ys))) ∧ ∃ n, w' = w.drewN n := by
  obtain ⟨ao, cap, rfl, hao, hca, hcl⟩ := h.flatI
  obtain ⟨bo, cap', rfl, hbo, hcb, hcl'⟩ := h'.flatI
  clear h h'
  by_cases hl : xs.length = ys.length
  · have hle : ((xs.length : Int) != ys.length) = false := by simp; omega
    go_enter Tryd.func13, Tryd.ntmps13
    go_wp2
    go_loopw [5] (fun i wr => ∃ k : Nat, k ≤ xs.length ∧ i = .int .i64 k ∧ xs.take k = ys.take k ∧ ∃ n, wr = w.drewN n) (fun i _ => xs.length - (intOf i).toNat)
    case atStart => exact ⟨0, Nat.zero_le _, rfl, rfl, 0, rfl⟩
    case round =>
      obtain ⟨k, hk, rfl, ht, n, rfl⟩ := hrel
      have HT : Hid (xs.take k = ys.take k) := ht
      clear ht
      by_cases hlt : k < xs.length
      · obtain ⟨g, off, x, rfl, hx1, hx3⟩ := hcl k hlt
        obtain ⟨g', off', y, rfl, hy1, hy3⟩ := hcl' k (by omega)
        have HX : Hid (xs[k]? = some x) := hx1
        have HY : Hid (ys[k]? = some y) := hy1
        have hlt' : k < ys.length := by omega
        clear hx1 hy1 hcl hcl'
        by_cases hxy : x = y
        · subst hxy
          have hxx : (x != x) = false := by simp
          go_wp2
          go_quiet (fail)
          go_wp2
          go_roundw
          case rel => exact ⟨k + 1, by omega, by go_num, by rw [take_get HX.out, take_get HY.out, HT.out], _, rfl⟩
          case measure => simp [intOf]; omega
        · have hne : (x != y) = true := by rw [bne_iff_ne]; exact hxy
          go_wp2
          go_quiet (fail)
          go_wp2
          go_ret
          exact ⟨ret1b (by rw [eq_comm, decide_eq_false_iff_not]; rintro rfl; have := HX.out.symm.trans HY.out; simp at this; exact hxy this), _, World.drewN_drewN _ _ _⟩
      · have hk' : k = xs.length := by omega
        go_wp2
        go_ret
        refine ⟨ret1b ?_, n, rfl⟩
        have := HT.out
        rw [List.take_of_length_le (by omega), List.take_of_length_le (by omega)] at this
        simp [this]
  · have hle : ((xs.length : Int) != ys.length) = true := by rw [bne_iff_ne]; omega
    go_enter Tryd.func13, Tryd.ntmps13
    go_wp2
    go_ret
    exact ⟨ret1b (by rw [eq_comm, decide_eq_false_iff_not]; rintro rfl; exact hl rfl), 0, rfl⟩

set_option maxHeartbeats 400000 in
theorem sameRowD_any (v u : Value) (xs ys : List Int) (w : World) (h : Is w v xs) (h' : Is w u ys) :
    Calls Tryd.prog 62 #[v, u] w fun e w' => e = .returned (.bool (decide (xs = ys))) ∧ ∃ n, w' = w.drewN n := by
  obtain ⟨ao, cap, rfl, hao, hca, hcl⟩ := h.flatI
  obtain ⟨bo, cap', rfl, hbo, hcb, hcl'⟩ := h'.flatI
  clear h h'
  by_cases hl : xs.length = ys.length
  · have hle : ((xs.length : Int) != ys.length) = false := by simp; omega
    go_enter Tryd.func62, Tryd.ntmps62
    go_wp2
    go_loopw [5] (fun i wr => ∃ k : Nat, k ≤ xs.length ∧ i = .int .i64 k ∧ xs.take k = ys.take k ∧ ∃ n, wr = w.drewN n) (fun i _ => xs.length - (intOf i).toNat)
    case atStart => exact ⟨0, Nat.zero_le _, rfl, rfl, 0, rfl⟩
    case round =>
      obtain ⟨k, hk, rfl, ht, n, rfl⟩ := hrel
      have HT : Hid (xs.take k = ys.take k) := ht
      clear ht
      by_cases hlt : k < xs.length
      · obtain ⟨g, off, x, rfl, hx1, hx3⟩ := hcl k hlt
        obtain ⟨g', off', y, rfl, hy1, hy3⟩ := hcl' k (by omega)
        have HX : Hid (xs[k]? = some x) := hx1
        have HY : Hid (ys[k]? = some y) := hy1
        have hlt' : k < ys.length := by omega
        clear hx1 hy1 hcl hcl'
        by_cases hxy : x = y
        · subst hxy
          have hxx : (x != x) = false := by simp
          go_wp2
          go_quiet (fail)
          go_wp2
          go_roundw
          case rel => exact ⟨k + 1, by omega, by go_num, by rw [take_get HX.out, take_get HY.out, HT.out], _, rfl⟩
          case measure => simp [intOf]; omega
        · have hne : (x != y) = true := by rw [bne_iff_ne]; exact hxy
          go_wp2
          go_quiet (fail)
          go_wp2
          go_ret
          exact ⟨ret1b (by rw [eq_comm, decide_eq_false_iff_not]; rintro rfl; have := HX.out.symm.trans HY.out; simp at this; exact hxy this), _, World.drewN_drewN _ _ _⟩
      · have hk' : k = xs.length := by omega
        go_wp2
        go_ret
        refine ⟨ret1b ?_, n, rfl⟩
        have := HT.out
        rw [List.take_of_length_le (by omega), List.take_of_length_le (by omega)] at this
        simp [this]
  · have hle : ((xs.length : Int) != ys.length) = true := by rw [bne_iff_ne]; omega
    go_enter Tryd.func62, Tryd.ntmps62
    go_wp2
    go_ret
    exact ⟨ret1b (by rw [eq_comm, decide_eq_false_iff_not]; rintro rfl; exact hl rfl), 0, rfl⟩

set_option maxRecDepth 100000 in
set_option maxHeartbeats 1600000 in
theorem same5_any (v u : Value) (a : List Bd) (w : World) (h : Bs w v a) (h' : Bs w u a) :
    Calls Tryd.prog 12 #[v, u] w fun e w' => e = .returned (.bool true) ∧ Below w.heap.size w w' := by
  obtain ⟨ao, cap, rfl, hao, hca, _⟩ := Row.flat h
  obtain ⟨bo, cap', rfl, hbo, hcb, _⟩ := Row.flat h'
  unfold maxLen at hca hcb
  have HA := hid h
  have HB := hid h'
  clear h h'
  have hle : ((a.length : Int) != a.length) = false := by simp
  go_enter Tryd.func12, Tryd.ntmps12
  go_wp2
  go_loopw [5] (fun i wr => ∃ k : Nat, k ≤ a.length ∧ i = .int .i64 k ∧ Below w.heap.size w wr) (fun i _ => a.length - (intOf i).toNat)
  case atStart => exact ⟨0, Nat.zero_le _, rfl, Below.refl _ _⟩
  case round =>
    obtain ⟨k, hk, rfl, hbl⟩ := hrel
    have HBl := hid hbl
    by_cases hlt : k < a.length
    · obtain ⟨g, off, x, xa, t, xc, rfl, hm, hc0, hc1, hit, hx1, hx2, hx3⟩ := (HA.out.kp (Kp.of_below hbl)).at hlt
      obtain ⟨g', off', y, ya, t', yc, rfl, hm', hd0, hd1, hjt, hy1, hy2, hy3⟩ := (HB.out.kp (Kp.of_below hbl)).at hlt
      obtain ⟨rfl, rfl⟩ : x = y ∧ t = t' := by rw [hm] at hm'; simpa using hm'
      have hxx : (x != x) = false := by simp
      have HC : Hid (∀ W, Below wr.heap.size wr W → Calls Tryd.prog 13 #[.slice xa t.length xc, .slice ya t.length yc] W fun e w' => e = .returned (.bool true) ∧ Below W.heap.size W w') := fun W hW => by
        refine (sameRow5_any _ _ t t W (hit.kp (Kp.of_below hW)) (hjt.kp (Kp.of_below hW))).mono ?_
        rintro e w' ⟨rfl, n, hw⟩
        exact ⟨by rw [decide_eq_true rfl], drawn_below hw⟩
      clear hm hm' hit hjt hbl
      go_wp2_with fail
      refine region_below (by kernel_rfl) (by kernel_rfl) ?_
      (go_big_quiet_want; go_big_quiet_op; go_big_quiet_on)
      (go_big_quiet_want; go_big_quiet_op; go_big_quiet_on)
      go_big_quiet_want
      refine ⟨.pointer (some ⟨g, off + k * 2, none⟩), fun w' hw' => ?_, ?_⟩
      · unfold Oper.quietAt; go_simp
      simp only [Act.put, List.setIfInBounds_toArray, List.set_cons_zero, List.set_cons_succ]
      go_big_quiet_on
      go_big_quiet_want
      refine ⟨.pointer (some ⟨g, off + k * 2 + 1, none⟩), fun w' hw' => ?_, ?_⟩
      · unfold Oper.quietAt; go_simp
      simp only [Act.put, List.setIfInBounds_toArray, List.set_cons_zero, List.set_cons_succ]
      go_big_quiet_on
      go_big_quiet_want
      refine ⟨.slice xa t.length xc, fun w' hw' => ?_, ?_⟩
      · have hh0 := (Kp.of_below hw').cell _ _ hc1; unfold Oper.quietAt; go_simp
      simp only [Act.put, List.setIfInBounds_toArray, List.set_cons_zero, List.set_cons_succ]
      go_big_quiet_on
      (go_big_quiet_want; go_big_quiet_op; go_big_quiet_on)
      (go_big_quiet_want; go_big_quiet_op; go_big_quiet_on)
      go_big_quiet_want
      refine ⟨.pointer (some ⟨g', off' + k * 2, none⟩), fun w' hw' => ?_, ?_⟩
      · unfold Oper.quietAt; go_simp
      simp only [Act.put, List.setIfInBounds_toArray, List.set_cons_zero, List.set_cons_succ]
      go_big_quiet_on
      go_big_quiet_want
      refine ⟨.pointer (some ⟨g', off' + k * 2 + 1, none⟩), fun w' hw' => ?_, ?_⟩
      · unfold Oper.quietAt; go_simp
      simp only [Act.put, List.setIfInBounds_toArray, List.set_cons_zero, List.set_cons_succ]
      go_big_quiet_on
      go_big_quiet_want
      refine ⟨.slice ya t.length yc, fun w' hw' => ?_, ?_⟩
      · have hh0 := (Kp.of_below hw').cell _ _ hd1; unfold Oper.quietAt; go_simp
      simp only [Act.put, List.setIfInBounds_toArray, List.set_cons_zero, List.set_cons_succ]
      go_big_quiet_on
      go_big_quiet_want
      refine ⟨.bool true, fun w' hw' => ?_, ?_⟩
      · unfold Oper.quietAt; go_simp; exact (HC.out w' hw').mono (fun e w2 ⟨he, hb⟩ => ⟨he, below_step hw' hb⟩)
      simp only [Act.put, List.setIfInBounds_toArray, List.set_cons_zero, List.set_cons_succ]
      go_big_quiet_on
      (go_big_quiet_want; go_big_quiet_op; go_big_quiet_on)
      refine wpQuiet_nil ?_
      intro w2 hb2
      have HB2 := hid (below_step HBl.out hb2)
      have he0 := (Kp.of_below hb2).cell _ _ hc0
      have he1 := (Kp.of_below hb2).cell _ _ hd0
      clear hb2 HC hc0 hc1 hd0 hd1
      go_wp2_with fail
      refine region_below (by kernel_rfl) (by kernel_rfl) ?_
      (go_big_quiet_want; go_big_quiet_op; go_big_quiet_on)
      go_big_quiet_want
      refine ⟨.bool false, fun w' hw' => ?_, ?_⟩
      · unfold Oper.quietAt; go_simp
      simp only [Act.put, List.setIfInBounds_toArray, List.set_cons_zero, List.set_cons_succ]
      go_big_quiet_on
      (go_big_quiet_want; go_big_quiet_op; go_big_quiet_on)
      (go_big_quiet_want; go_big_quiet_op; go_big_quiet_on)
      (go_big_quiet_want; go_big_quiet_op; go_big_quiet_on)
      go_big_quiet_want
      refine ⟨.pointer (some ⟨g, off + k * 2, none⟩), fun w' hw' => ?_, ?_⟩
      · unfold Oper.quietAt; go_simp
      simp only [Act.put, List.setIfInBounds_toArray, List.set_cons_zero, List.set_cons_succ]
      go_big_quiet_on
      go_big_quiet_want
      refine ⟨.pointer (some ⟨g, off + k * 2, none⟩), fun w' hw' => ?_, ?_⟩
      · unfold Oper.quietAt; go_simp
      simp only [Act.put, List.setIfInBounds_toArray, List.set_cons_zero, List.set_cons_succ]
      go_big_quiet_on
      go_big_quiet_want
      refine ⟨.int .i64 x, fun w' hw' => ?_, ?_⟩
      · have hh0 := (Kp.of_below hw').cell _ _ he0; unfold Oper.quietAt; go_simp
      simp only [Act.put, List.setIfInBounds_toArray, List.set_cons_zero, List.set_cons_succ]
      go_big_quiet_on
      (go_big_quiet_want; go_big_quiet_op; go_big_quiet_on)
      (go_big_quiet_want; go_big_quiet_op; go_big_quiet_on)
      go_big_quiet_want
      refine ⟨.pointer (some ⟨g', off' + k * 2, none⟩), fun w' hw' => ?_, ?_⟩
      · unfold Oper.quietAt; go_simp
      simp only [Act.put, List.setIfInBounds_toArray, List.set_cons_zero, List.set_cons_succ]
      go_big_quiet_on
      go_big_quiet_want
      refine ⟨.pointer (some ⟨g', off' + k * 2, none⟩), fun w' hw' => ?_, ?_⟩
      · unfold Oper.quietAt; go_simp
      simp only [Act.put, List.setIfInBounds_toArray, List.set_cons_zero, List.set_cons_succ]
      go_big_quiet_on
      go_big_quiet_want
      refine ⟨.int .i64 x, fun w' hw' => ?_, ?_⟩
      · have hh0 := (Kp.of_below hw').cell _ _ he1; unfold Oper.quietAt; go_simp
      simp only [Act.put, List.setIfInBounds_toArray, List.set_cons_zero, List.set_cons_succ]
      go_big_quiet_on
      go_big_quiet_want
      refine ⟨.bool false, fun w' hw' => ?_, ?_⟩
      · unfold Oper.quietAt; go_simp
      simp only [Act.put, List.setIfInBounds_toArray, List.set_cons_zero, List.set_cons_succ]
      go_big_quiet_on
      go_big_quiet_want
      refine ⟨.bool false, fun w' hw' => ?_, ?_⟩
      · unfold Oper.quietAt; go_simp
      simp only [Act.put, List.setIfInBounds_toArray, List.set_cons_zero, List.set_cons_succ]
      go_big_quiet_on
      refine wpQuiet_nil ?_
      intro w3 hb3
      have HB3 := hid (below_step HB2.out hb3)
      clear hb3 he0 he1
      go_wp2
      go_roundw
      case rel => exact ⟨k + 1, by omega, by go_num, HB3.out⟩
      case measure => simp [intOf]; omega
    · go_wp2
      go_ret
      exact ⟨rfl, HBl.out⟩

end Go.Proofs.YtcijfaijjpkdoaaDoor
