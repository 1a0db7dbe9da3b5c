/- What the law file's helpers do: same, lent, kept, spoil, three, which. -/
import Derived.Test.YtjcgngfidnechaaDoorTAboveP
import Derived.Test.YtjcgngfidnechaaDoorTShown
namespace Go.Proofs.YtjcgngfidnechaaDoor
open Go.RowKit Go.Maps Go.BigFrame

set_option maxHeartbeats 400000 in
theorem same3_any (v u : Value) (xs ys : List Int) (w : World) (h : Is w v xs) (h' : Is w u ys) :
    Calls Tryd.prog 17 #[v, u] w fun e w' => e = .returned (.bool (decide (xs = ys))) ∧ ∃ n, w' = w.drewN n := by
  obtain ⟨ao, cap, rfl, hao, hca, hcl⟩ := h.flatI
  obtain ⟨bo, cap', rfl, hbo, hcb, hcl'⟩ := h'.flatI
  clear h h'
  by_cases hl : xs.length = ys.length
  · have hle : ((xs.length : Int) != ys.length) = false := by simp; omega
    go_enter Tryd.func17, Tryd.ntmps17
    go_wp2
    go_loopw [5] (fun i wr => ∃ k : Nat, k ≤ xs.length ∧ i = .int .i64 k ∧ xs.take k = ys.take k ∧ ∃ n, wr = w.drewN n) (fun i _ => xs.length - (intOf i).toNat)
    case atStart => exact ⟨0, Nat.zero_le _, rfl, rfl, 0, rfl⟩
    case round =>
      obtain ⟨k, hk, rfl, ht, n, rfl⟩ := hrel
      have HT : Hid (xs.take k = ys.take k) := ht
      clear ht
      by_cases hlt : k < xs.length
      · obtain ⟨g, off, x, rfl, hx1, hx3⟩ := hcl k hlt
        obtain ⟨g', off', y, rfl, hy1, hy3⟩ := hcl' k (by omega)
        have HX : Hid (xs[k]? = some x) := hx1
        have HY : Hid (ys[k]? = some y) := hy1
        have hlt' : k < ys.length := by omega
        clear hx1 hy1 hcl hcl'
        by_cases hxy : x = y
        · subst hxy
          have hxx : (x != x) = false := by simp
          go_wp2
          go_quiet (fail)
          go_wp2
          go_roundw
          case rel => exact ⟨k + 1, by omega, by go_num, by rw [take_get HX.out, take_get HY.out, HT.out], _, rfl⟩
          case measure => simp [intOf]; omega
        · have hne : (x != y) = true := by rw [bne_iff_ne]; exact hxy
          go_wp2
          go_quiet (fail)
          go_wp2
          go_ret
          exact ⟨ret1b (by rw [eq_comm, decide_eq_false_iff_not]; rintro rfl; have := HX.out.symm.trans HY.out; simp at this; exact hxy this), _, World.drewN_drewN _ _ _⟩
      · have hk' : k = xs.length := by omega
        go_wp2
        go_ret
        refine ⟨ret1b ?_, n, rfl⟩
        have := HT.out
        rw [List.take_of_length_le (by omega), List.take_of_length_le (by omega)] at this
        simp [this]
  · have hle : ((xs.length : Int) != ys.length) = true := by rw [bne_iff_ne]; omega
    go_enter Tryd.func17, Tryd.ntmps17
    go_wp2
    go_ret
    exact ⟨ret1b (by rw [eq_comm, decide_eq_false_iff_not]; rintro rfl; exact hl rfl), 0, rfl⟩

theorem join_two (ty : TypeId) {w : World} {base : Nat} {x u : Value} {xs es : List Int} (ho : OwI w base x xs) (hs : Is w u es) (hb : base ≤ w.heap.size) (hl : (xs.length + es.length) * 8 ≤ 140737488355328) :
    ∃ v' w', (Builtin.append_ #[27, 27] ty #[x, u]).run Tryd.prog w = .ok v' w' ∧ OwI w' base v' (xs ++ es) ∧ w.grownBy w' x.ownBlock ∧ (v'.ownBlock = x.ownBlock ∨ v'.ownBlock = some w.heap.size) := by
  obtain ⟨i0, hi, hz0, hz1, hz2⟩ := info_parts info_int
  have hZ : ZI es := fun k x hk => by
    obtain ⟨ao, cap, rfl, _, _, hx⟩ := Row.flat hs
    obtain ⟨_, _, y, _, hy, h1, h2, _⟩ := hx k (List.getElem?_eq_some_iff.1 hk).1
    rw [hk] at hy
    cases hy
    exact ⟨h1, h2⟩
  have hZ2 : ZI (xs ++ es) := fun k y hk => by
    by_cases hkl : k < xs.length
    · rw [List.getElem?_append_left hkl] at hk
      exact ho.1 k y hk
    · rw [List.getElem?_append_right (by omega)] at hk
      exact hZ _ y hk
  obtain ⟨ao, cap, rfl, hc, hm, hx⟩ := hs
  by_cases h0 : es.length = 0
  · obtain rfl : es = [] := List.eq_nil_of_length_eq_zero h0
    obtain ⟨bo, bc, rfl, hbc, _⟩ := ho.shape
    refine ⟨_, w, run_append_nothing w 27 27 ty 3 i0 under_ints hi _ xs.length bc hbc _ ?_, by rw [List.append_nil]; exact ho, World.grownBy.refl _ _, .inl rfl⟩
    cases ao with
    | none => exact Src.ofNil w under_ints _
    | some a => exact Src.ofSlice w under_ints a 0 _ [] (by simp) (fun j u hj => (by simp at hj)) (fun u hu => (by simp at hu))
  · obtain ⟨g', off, rfl, hg, hcell⟩ := hx (by omega)
    obtain ⟨v', w', hr, h2, h3, _, h5⟩ := run_append_own_at (P := Tryd.prog) w base 27 ty 3 i0 _ 1 8 under_ints hi hz0 hz1 hz2 rfl (by decide) _ xs.length (xs.map I64) ho.2 ⟨g', off, none⟩ es.length cap (es.map I64) (by simp) (fun j u hj => by
      rw [List.getElem?_map] at hj
      cases hk : es[j]? with
      | none => rw [hk] at hj; simp at hj
      | some x =>
        rw [hk] at hj
        simp at hj
        subst hj
        rw [Addr.add_lit]
        have := (hcell j x hk).2.2
        rw [Nat.mul_one] at this
        exact this) (fun u hu => by obtain ⟨x, _, rfl⟩ := List.mem_map.1 hu; rfl) (by unfold maxLen; omega) (by omega) hb
    refine ⟨v', w', hr, ⟨hZ2, ?_⟩, h3, h5⟩
    rw [List.length_append, List.map_append]
    exact h2

theorem I64_one (xs : List Int) : ∀ u ∈ xs.map I64, u.oneCell' = true := fun u hu => by obtain ⟨x, _, rfl⟩ := List.mem_map.1 hu; rfl

theorem run_copy_ints {w : World} {base g n cap cap' : Nat} {ao : Option Addr} {zs xs : List Int} (ho : OwI w base (.slice (some ⟨g, 0, none⟩) n cap) zs) (hn : n = zs.length)
    (hs : Is w (.slice ao xs.length cap') xs) (hle : xs.length ≤ n) :
    ∃ w', (Builtin.copy_ #[27, 27] 3 #[.slice (some ⟨g, 0, none⟩) n cap, .slice ao xs.length cap']).run Tryd.prog w = .ok (goInt xs.length) w' ∧
      OwI w' base (.slice (some ⟨g, 0, none⟩) n cap) (xs ++ zs.drop xs.length) ∧ w.grownBy w' (some g) := by
  subst hn
  have hsz : (Tryd.prog.info? 3).map (·.size) = some 1 := by kernel_rfl
  by_cases h0 : xs.length = 0
  · obtain rfl : xs = [] := List.eq_nil_of_length_eq_zero h0
    have := run_copy_none (P := Tryd.prog) w 27 27 3 3 (some ⟨g, 0, none⟩) ao zs.length cap 0 cap' under_ints hsz (by simp)
    exact ⟨w, this, by simpa using ho, World.grownBy.refl _ _⟩
  · have hZ := hs.range
    obtain ⟨ao', c', hv, hc, hm, hx⟩ := hs
    simp only [Value.slice.injEq] at hv
    obtain ⟨rfl, _, rfl⟩ := hv
    obtain ⟨g', off, rfl, hg, hx⟩ := hx (by omega)
    rcases ho.2.2 with ⟨hv, _⟩ | ⟨g2, cap2, cur, hv, hb, hg2, hc2, hm2, hs2, ht2⟩
    · simp at hv
    · simp only [Value.slice.injEq, Option.some.injEq, Addr.mk.injEq, and_true, true_and] at hv
      obtain ⟨rfl, rfl⟩ := hv
      have hmin : xs.length = Nat.min xs.length zs.length := (Nat.min_eq_left hle).symm
      have hcur : zs.length ≤ cur.size := by omega
      have := run_copy_row (P := Tryd.prog) w 27 27 3 3 g 0 zs.length cap ⟨g', off, none⟩ xs.length cap' cur 3 (xs.map I64) under_ints hsz hg2
        (by simpa using hmin) (by
          intro j v hj
          simp only [List.getElem?_map, Option.map_eq_some_iff] at hj
          obtain ⟨x, hx1, rfl⟩ := hj
          rw [Addr.add_lit]
          have := (hx j x hx1).2.2
          rw [Nat.mul_one] at this
          exact this) (by simp; omega) (I64_one xs)
      refine ⟨_, by simpa using this, ⟨?_, ?_, .inr ⟨g, cap, _, by rw [List.length_append, List.length_drop, show xs.length + (zs.length - xs.length) = zs.length by omega], hb, setRow_heap w g cur _ 3 _ hg2, ?_, hm2, ?_, ?_⟩⟩, ?_⟩
      · intro k y hk
        by_cases hkl : k < xs.length
        · rw [List.getElem?_append_left hkl] at hk
          exact hZ k y hk
        · rw [List.getElem?_append_right (by omega), List.getElem?_drop] at hk
          exact ho.1 _ y hk
      · simp
      · simp; omega
      · simp; omega
      · have hl : (xs.map I64).length = xs.length := by simp
        rw [List.length_append, List.length_drop, show xs.length + (zs.length - xs.length) = zs.length by omega]
        simp only [List.map_append, List.map_drop, ← ht2, List.drop_take, Nat.mul_one]
        rw [List.take_append, hl, List.take_of_length_le (by simp; omega)]
      · exact ⟨rfl, rfl, rfl, by simp [World.setRow], fun k _ hk => setRow_other w g k _ (fun e => hk (by simp [e]))⟩

/-- A row and three marks behind it. -/
def marked (xs : List Int) : List Int := xs ++ [77, 77, 77]

theorem mark_step (xs R : List Int) (k : Nat) : (xs ++ List.replicate k 77) ++ 77 :: R = (xs ++ List.replicate (k + 1) 77) ++ R := by
  rw [List.replicate_succ']; simp

theorem get_midI {α : Type} {L : List α} {x : α} {R : List α} {k : Nat} (hk : L.length = k) : (L ++ x :: R)[k]? = some x := by subst hk; simp

set_option maxRecDepth 100000 in
set_option maxHeartbeats 800000 in
theorem lent_any (v : Value) (xs : List Int) (w : World) (h : Is w v xs) (hlen : xs.length * 8 ≤ 140737488351232) :
    Calls Tryd.prog 12 #[v] w fun e w' => ∃ g, e = .returned (.slice (some ⟨g, 0, none⟩) xs.length (xs.length + 3)) ∧ OwI w' w.heap.size (.slice (some ⟨g, 0, none⟩) (xs.length + 3) (xs.length + 3)) (marked xs) ∧ Below w.heap.size w w' := by
  obtain ⟨ao, cap, rfl, hao, hca, hcl⟩ := h.flatI
  obtain ⟨i0, hi, hz0, hz1, hz2⟩ := info_parts info_int
  have HS := hid h
  clear h hcl
  go_enter Tryd.func12, Tryd.ntmps12
  go_wp2_with (first
    | (at_make; refine wpList_make_full _ rfl _ _ 27 rfl w.heap.size 3 i0 (.int .i64 0) 1 under_ints hi hz0 hz1 .i64 .i64 _ _ (xs.length + 3) rfl rfl (by omega) (by omega) (by rw [hz2]; omega) (by unfold maxLen; omega) (Nat.le_refl _) ?_; intro w0 hown0 hgrow0))
  have hb0 : Below w.heap.size w w0 := (Below.refl _ _).grown hgrow0 (Nat.le_refl _) (by intro k hk; cases hk)
  obtain ⟨w1, hrun, ho1, hg1⟩ := run_copy_ints (OwI.made hown0) (by simp) (HS.out.kp (Kp.of_below hb0)) (by omega)
  have hb1 : Below w.heap.size w w1 := hb0.grown hg1 hb0.size (by intro k hk; simp at hk; omega)
  have HO : Hid (OwI w1 w.heap.size (.slice (some ⟨w.heap.size, 0, none⟩) (xs.length + 3) (xs.length + 3)) ((xs ++ List.replicate (xs.length - xs.length) 77) ++ List.replicate (xs.length + 3 - xs.length) 0)) := by
    have := ho1
    rw [List.drop_replicate] at this
    rw [Nat.sub_self, List.replicate_zero, List.append_nil]
    exact this
  rw [hrun]
  clear hown0 hgrow0 ho1 hg1 hb0
  go_wp2
  clear hrun
  go_loopw [4] (fun i wr => ∃ p : Nat, xs.length ≤ p ∧ p ≤ xs.length + 3 ∧ i = .int .i64 p ∧ OwI wr w.heap.size (.slice (some ⟨w.heap.size, 0, none⟩) (xs.length + 3) (xs.length + 3)) ((xs ++ List.replicate (p - xs.length) 77) ++ List.replicate (xs.length + 3 - p) 0) ∧ Below w.heap.size w wr)
    (fun i _ => xs.length + 3 - (intOf i).toNat)
  case atStart => exact ⟨xs.length, Nat.le_refl _, by omega, rfl, HO.out, hb1⟩
  case round =>
    obtain ⟨p, hp1, hp2, rfl, hown, hbl⟩ := hrel
    have HW := hid hown
    clear hown HO hb1
    by_cases hlt : p < xs.length + 3
    · have hw := HW.out
      rw [show xs.length + 3 - p = (xs.length + 3 - (p + 1)) + 1 by omega, List.replicate_succ] at hw
      have hlp : (xs ++ List.replicate (p - xs.length) 77).length = p := by simp; omega
      obtain ⟨hcell, hfr⟩ := hw.at (k := p) (get_midI hlp)
      have hq := hw.put hbl (Nat.le_refl _) (by simp; omega) (k := p) (z := 77) (by omega) (ys := (xs ++ List.replicate (p + 1 - xs.length) 77) ++ List.replicate (xs.length + 3 - (p + 1)) 0) (by rw [set_midI _ _ _ _ _ hlp, mark_step, show p - xs.length + 1 = p + 1 - xs.length by omega])
      have HP := hid hq
      clear hq hw hlp
      go_wp2
      go_roundw
      case rel => exact ⟨p + 1, by omega, by omega, by go_num, HP.out.1, HP.out.2⟩
      case measure => simp [intOf]; omega
    · have hp' : p = xs.length + 3 := by omega
      subst hp'
      have hw := HW.out
      rw [Nat.sub_self, List.replicate_zero, List.append_nil, show xs.length + 3 - xs.length = 3 by omega] at hw
      have HW2 : Hid (OwI wr w.heap.size (.slice (some ⟨w.heap.size, 0, none⟩) (xs.length + 3) (xs.length + 3)) (marked xs)) := hw
      clear hw HW
      go_wp2
      go_ret
      exact ⟨_, rfl, HW2.out, hbl⟩

theorem marked_lo {xs : List Int} {k : Nat} {x : Int} (h : xs[k]? = some x) : (marked xs)[k]? = some x := by
  have hk := (List.getElem?_eq_some_iff.1 h).1
  unfold marked
  rw [List.getElem?_append_left hk, h]

theorem marked_hi {xs : List Int} {k : Nat} (h1 : ¬ k < xs.length) (h2 : k < xs.length + 3) : (marked xs)[k]? = some 77 := by
  unfold marked
  rw [List.getElem?_append_right (by omega)]
  obtain ⟨j, rfl⟩ : ∃ j, k = xs.length + j := ⟨k - xs.length, by omega⟩
  rw [Nat.add_sub_cancel_left]
  match j, (by omega : j < 3) with
  | 0, _ => rfl
  | 1, _ => rfl
  | 2, _ => rfl

theorem cutI {w : World} {base g n cap : Nat} {xs ys : List Int} (h : OwI w base (.slice (some ⟨g, 0, none⟩) n cap) (xs ++ ys)) : Is w (.slice (some ⟨g, 0, none⟩) xs.length cap) xs := by
  obtain ⟨ao, cp, hv, hc, hm, hx⟩ := h.is
  simp only [Value.slice.injEq] at hv
  obtain ⟨rfl, _, rfl⟩ := hv
  rw [List.length_append] at hc
  refine ⟨_, cap, rfl, by omega, hm, fun h0 => ?_⟩
  obtain ⟨g', off, e, hg, hcell⟩ := hx (by rw [List.length_append]; omega)
  simp only [Option.some.injEq, Addr.mk.injEq, and_true] at e
  obtain ⟨rfl, rfl⟩ := e
  exact ⟨g, 0, rfl, hg, fun k x hk => hcell k x (by rw [List.getElem?_append_left (List.getElem?_eq_some_iff.1 hk).1]; exact hk)⟩

set_option maxRecDepth 100000 in
set_option maxHeartbeats 800000 in
theorem kept_any (g base : Nat) (u : Value) (xs : List Int) (w : World) (h : OwI w base (.slice (some ⟨g, 0, none⟩) (xs.length + 3) (xs.length + 3)) (marked xs)) (h' : Is w u xs) (hlen : xs.length * 8 ≤ 140737488351232) :
    Calls Tryd.prog 18 #[.slice (some ⟨g, 0, none⟩) xs.length (xs.length + 3), u] w fun e w' => e = .returned (.bool true) ∧ ∃ n, w' = w.drewN n := by
  obtain ⟨bo, cap', rfl, hbo, hcb, hcl'⟩ := h'.flatI
  have HO := hid h
  clear h h'
  go_enter Tryd.func18, Tryd.ntmps18
  go_wp2
  go_loopw [5] (fun i wr => ∃ k : Nat, k ≤ xs.length + 3 ∧ i = .int .i64 k ∧ ∃ n, wr = w.drewN n) (fun i _ => xs.length + 3 - (intOf i).toNat)
  case atStart => exact ⟨0, Nat.zero_le _, rfl, 0, rfl⟩
  case round =>
    obtain ⟨k, hk, rfl, n, rfl⟩ := hrel
    by_cases hlt : k < xs.length + 3
    · by_cases hkx : k < xs.length
      · obtain ⟨g', off', x, rfl, hx1, hx2⟩ := hcl' k hkx
        obtain ⟨hcell, _⟩ := HO.out.at (marked_lo hx1)
        clear hx1 hcl'
        have d2 : decide (xs.length ≤ k) = false := by simp; omega
        have hxx : (x != x) = false := by simp
        go_wp2
        go_quiet (fail)
        go_wp2
        go_roundw
        case rel => exact ⟨k + 1, by omega, by go_num, _, rfl⟩
        case measure => simp [intOf]; omega
      · obtain ⟨hcell, _⟩ := HO.out.at (marked_hi hkx hlt)
        have hcell0 : w.cell? ⟨g, k, none⟩ = some (.int .i64 77) := hcell
        clear hcell hcl'
        have d1 : decide (k < xs.length) = false := by simp; omega
        have d2 : decide (xs.length ≤ k) = true := by simp; omega
        go_wp2
        go_quiet (fail)
        go_wp2
        go_roundw
        case rel => exact ⟨k + 1, by omega, by go_num, _, rfl⟩
        case measure => simp [intOf]; omega
    · have hk' : k = xs.length + 3 := by omega
      clear hcl'
      go_wp2
      go_ret
      exact ⟨rfl, n, rfl⟩

theorem grown_stepT {a b c : World} {r r' : Option Nat} (h : a.grownBy b r) (h' : b.grownBy c r') (hr : ∀ g, r' = some g → r = some g ∨ a.heap.size ≤ g) : a.grownBy c r :=
  ⟨h'.os.trans h.os, h'.tape.trans h.tape, h'.output.trans h.output, Nat.le_trans h.size h'.size, fun k hk hne => (h'.block k (Nat.lt_of_lt_of_le hk h.size) (fun e => by
    rcases hr k e.symm with h1 | h1
    · exact hne h1.symm
    · omega)).trans (h.block k hk hne)⟩

set_option maxRecDepth 100000 in
set_option maxHeartbeats 1000000 in
theorem spoil_any (v : Value) (xs : List Int) (base : Nat) (w : World) (h : OwI w base v xs) (hb0 : base ≤ w.heap.size) (h64 : (xs.length + 2) * 8 ≤ 140737488355328) :
    Calls Tryd.prog 19 #[v] w fun e w' => e = .returned (.tuple #[]) ∧ w.grownBy w' v.ownBlock := by
  obtain ⟨ao, cap, rfl, hc1, hc2⟩ := h.shape
  unfold maxLen at hc2
  have HO := hid h
  clear h
  go_enter Tryd.func19, Tryd.ntmps19
  go_wp2
  go_loopw [2] (fun i wr => ∃ (k : Nat) (Z : List Int), k ≤ xs.length ∧ i = .int .i64 k ∧ Z.length = xs.length ∧ OwI wr base (.slice ao xs.length cap) Z ∧ w.grownBy wr (Value.slice ao xs.length cap).ownBlock) (fun i _ => xs.length - (intOf i).toNat)
  case atStart => exact ⟨0, xs, Nat.zero_le _, rfl, rfl, HO.out, World.grownBy.refl _ _⟩
  case round =>
    obtain ⟨k, Z, hk, rfl, hZ, hown, hgr⟩ := hrel
    have HZ := hid hZ
    have HW := hid hown
    have HG := hid hgr
    clear hZ hown hgr
    by_cases hlt : k < xs.length
    · obtain ⟨g, cp, hv⟩ := own_form (v := .slice ao xs.length cap) HW.out.2 (by rw [HZ.out]; omega)
      simp only [Value.slice.injEq] at hv
      obtain ⟨rfl, _, rfl⟩ := hv
      obtain ⟨x, hx⟩ : ∃ x, Z[k]? = some x := ⟨_, List.getElem?_eq_getElem (by rw [HZ.out]; exact hlt)⟩
      obtain ⟨hcell, hfr⟩ := HW.out.at hx
      have hp := (HW.out.put (B := 0) (w0 := wr) (Below.refl _ _) (Nat.zero_le _) HZ.out.symm (k := k) (z := 99) (by omega) rfl).1
      have HP := hid hp
      have HG2 := hid (grown_trans HG.out (set_grown wr g k (.int .i64 99)))
      clear hp hx
      go_wp2
      go_roundw
      case rel => exact ⟨k + 1, _, by omega, by go_num, by rw [List.length_set, HZ.out], HP.out, HG2.out⟩
      case measure => simp [intOf]; omega
    · have hk' : k = xs.length := by omega
      subst hk'
      obtain ⟨v4, w4, hr4, ho4, hg4, hn4⟩ := join_two 27 (u := .slice (some ⟨wr.heap.size, 0, none⟩) 2 2) (es := [98, 97]) (HW.out.later (below_alloc (.cells #[.int .i64 98, .int .i64 97] 3))) (is_new wr [98, 97] _ (by intro x hx; simp at hx; omega) (by simp)) (Nat.le_trans hb0 (Nat.le_trans HG.out.size (below_alloc _).size)) (by rw [HZ.out]; simp; omega)
      have hl4 : (Z ++ [98, 97]).length = xs.length + 2 := by rw [List.length_append, HZ.out]; rfl
      obtain ⟨g4, c4, rfl⟩ := own_form ho4.2 (by rw [hl4]; omega)
      rw [hl4] at hr4 ho4
      obtain ⟨hc4, hf4⟩ := ho4.at (k := xs.length + 1) (x := 97) (by rw [← HZ.out, List.getElem?_append_right (by omega)]; simp)
      have HR4 := hid hr4
      have hcc : xs.length + 2 ≤ c4 ∧ c4 ≤ 9223372036854775807 := by
        obtain ⟨_, c9, e9, h8, h9⟩ := ho4.shape
        simp only [Value.slice.injEq] at e9
        obtain ⟨_, _, rfl⟩ := e9
        rw [hl4] at h8
        unfold maxLen at h9
        omega
      have HF : Hid (w.grownBy (w4.setCell ⟨g4, xs.length + 1, none⟩ (.int .i64 96)) (Value.slice ao xs.length cap).ownBlock) := by
        have g1 := grown_trans HG.out (grown_of_below (below_alloc (.cells #[.int .i64 98, .int .i64 97] 3)) _)
        have g2 := grown_trans g1 hg4
        refine grown_stepT g2 (set_grown w4 g4 (xs.length + 1) (.int .i64 96)) (fun g e => ?_)
        cases e
        rcases hn4 with hn | hn
        · exact .inl hn.symm
        · simp only [Value.ownBlock, Option.some.injEq] at hn
          have := g1.size
          exact .inr (by omega)
      have hwn : IntKind.i64.wrap ((xs.length : Int) + 2 - 1) = (xs.length : Int) + 1 := by rw [IntWalk.i64_in _ ⟨by omega, by omega⟩]; omega
      clear hr4 ho4 hg4 hn4 hl4
      go_wp2_with (first
        | (at_builtin; refine wpList_append_run rfl _ _ _ rfl _ _ rfl rfl HR4.out ?_))
      go_end0
      exact ⟨rfl, HF.out⟩

set_option maxRecDepth 100000 in
theorem three_any (w : World) : Calls Tryd.prog 29 #[] w fun e w' => ∃ v', e = .returned v' ∧ Sg w' v' sumS ∧ Below w.heap.size w w' := by
  go_enter Tryd.func29, Tryd.ntmps29
  go_wp2
  go_ret
  refine ⟨_, rfl, sg_lit (p := sumS) (by simp) (by decide) ⟨⟨by decide, by decide, by decide, cell_new rfl, cell_new rfl⟩, ⟨by decide, by decide, by decide, cell_new rfl, cell_new rfl⟩, ⟨by decide, by decide, by decide, cell_new rfl, cell_new rfl⟩, trivial⟩, below_alloc _⟩

/-- Which of n places. -/
def whichN (c : Int) (n : Nat) : Nat := ((if c < 0 then -(c + 1) else c) % (n : Int)).toNat

theorem which_lt (c : Int) (n : Nat) (hn : 0 < n) : whichN c n < n := by
  unfold whichN
  have h1 := Int.emod_nonneg (if c < 0 then -(c + 1) else c) (b := (n : Int)) (by omega)
  have h2 := Int.emod_lt_of_pos (if c < 0 then -(c + 1) else c) (b := (n : Int)) (by omega)
  omega

end Go.Proofs.YtjcgngfidnechaaDoor
