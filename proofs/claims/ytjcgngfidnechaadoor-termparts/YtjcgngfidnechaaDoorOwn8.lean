/- Texts of the proof, one behind the other. -/
import Derived.Test.YtjcgngfidnechaaDoorOwn6
import Derived.Test.YtjcgngfidnechaaDoorOwn3
import Derived.Test.YtjcgngfidnechaaDoorOwn7
import Derived.Lib.AppendZeros
/- What the law file's helpers do: same, lent, kept, spoil, three, which. -/
namespace Go.Proofs.YtjcgngfidnechaaDoor
open Go.RowKit Go.Maps Go.BigFrame

set_option maxHeartbeats 400000 in
theorem same3_any (v u : Value) (xs ys : List Int) (w : World) (h : Is w v xs) (h' : Is w u ys) :
    Calls Tryd.prog 17 #[v, u] w fun e w' => e = .returned (.bool (decide (xs = ys))) ∧ ∃ n, w' = w.drewN n := by
  obtain ⟨ao, cap, rfl, hao, hca, hcl⟩ := h.flatI
  obtain ⟨bo, cap', rfl, hbo, hcb, hcl'⟩ := h'.flatI
  clear h h'
  by_cases hl : xs.length = ys.length
  · have hle : ((xs.length : Int) != ys.length) = false := by simp; omega
    go_enter Tryd.func17, Tryd.ntmps17
    go_wp2
    go_loopw [5] (fun i wr => ∃ k : Nat, k ≤ xs.length ∧ i = .int .i64 k ∧ xs.take k = ys.take k ∧ ∃ n, wr = w.drewN n) (fun i _ => xs.length - (intOf i).toNat)
    case atStart => exact ⟨0, Nat.zero_le _, rfl, rfl, 0, rfl⟩
    case round =>
      obtain ⟨k, hk, rfl, ht, n, rfl⟩ := hrel
      have HT : Hid (xs.take k = ys.take k) := ht
      clear ht
      by_cases hlt : k < xs.length
      · obtain ⟨g, off, x, rfl, hx1, hx3⟩ := hcl k hlt
        obtain ⟨g', off', y, rfl, hy1, hy3⟩ := hcl' k (by omega)
        have HX : Hid (xs[k]? = some x) := hx1
        have HY : Hid (ys[k]? = some y) := hy1
        have hlt' : k < ys.length := by omega
        clear hx1 hy1 hcl hcl'
        by_cases hxy : x = y
        · subst hxy
          have hxx : (x != x) = false := by simp
          go_wp2
          go_quiet (fail)
          go_wp2
          go_roundw
          case rel => exact ⟨k + 1, by omega, by go_num, by rw [take_get HX.out, take_get HY.out, HT.out], _, rfl⟩
          case measure => simp [intOf]; omega
        · have hne : (x != y) = true := by rw [bne_iff_ne]; exact hxy
          go_wp2
          go_quiet (fail)
          go_wp2
          go_ret
          exact ⟨ret1b (by rw [eq_comm, decide_eq_false_iff_not]; rintro rfl; have := HX.out.symm.trans HY.out; simp at this; exact hxy this), _, World.drewN_drewN _ _ _⟩
      · have hk' : k = xs.length := by omega
        go_wp2
        go_ret
        refine ⟨ret1b ?_, n, rfl⟩
        have := HT.out
        rw [List.take_of_length_le (by omega), List.take_of_length_le (by omega)] at this
        simp [this]
  · have hle : ((xs.length : Int) != ys.length) = true := by rw [bne_iff_ne]; omega
    go_enter Tryd.func17, Tryd.ntmps17
    go_wp2
    go_ret
    exact ⟨ret1b (by rw [eq_comm, decide_eq_false_iff_not]; rintro rfl; exact hl rfl), 0, rfl⟩

theorem join_two (ty : TypeId) {w : World} {base : Nat} {x u : Value} {xs es : List Int} (ho : OwI w base x xs) (hs : Is w u es) (hb : base ≤ w.heap.size) (hl : (xs.length + es.length) * 8 ≤ 140737488355328) :
    ∃ v' w', (Builtin.append_ #[27, 27] ty #[x, u]).run Tryd.prog w = .ok v' w' ∧ OwI w' base v' (xs ++ es) ∧ w.grownBy w' x.ownBlock ∧ (v'.ownBlock = x.ownBlock ∨ v'.ownBlock = some w.heap.size) := by
  obtain ⟨i0, hi, hz0, hz1, hz2⟩ := info_parts info_int
  have hZ : ZI es := fun k x hk => by
    obtain ⟨ao, cap, rfl, _, _, hx⟩ := Row.flat hs
    obtain ⟨_, _, y, _, hy, h1, h2, _⟩ := hx k (List.getElem?_eq_some_iff.1 hk).1
    rw [hk] at hy
    cases hy
    exact ⟨h1, h2⟩
  have hZ2 : ZI (xs ++ es) := fun k y hk => by
    by_cases hkl : k < xs.length
    · rw [List.getElem?_append_left hkl] at hk
      exact ho.1 k y hk
    · rw [List.getElem?_append_right (by omega)] at hk
      exact hZ _ y hk
  obtain ⟨ao, cap, rfl, hc, hm, hx⟩ := hs
  by_cases h0 : es.length = 0
  · obtain rfl : es = [] := List.eq_nil_of_length_eq_zero h0
    obtain ⟨bo, bc, rfl, hbc, _⟩ := ho.shape
    refine ⟨_, w, run_append_nothing w 27 27 ty 3 i0 under_ints hi _ xs.length bc hbc _ ?_, by rw [List.append_nil]; exact ho, World.grownBy.refl _ _, .inl rfl⟩
    cases ao with
    | none => exact Src.ofNil w under_ints _
    | some a => exact Src.ofSlice w under_ints a 0 _ [] (by simp) (fun j u hj => (by simp at hj)) (fun u hu => (by simp at hu))
  · obtain ⟨g', off, rfl, hg, hcell⟩ := hx (by omega)
    obtain ⟨v', w', hr, h2, h3, _, h5⟩ := run_append_own_at (P := Tryd.prog) w base 27 ty 3 i0 _ 1 8 under_ints hi hz0 hz1 hz2 rfl (by decide) _ xs.length (xs.map I64) ho.2 ⟨g', off, none⟩ es.length cap (es.map I64) (by simp) (fun j u hj => by
      rw [List.getElem?_map] at hj
      cases hk : es[j]? with
      | none => rw [hk] at hj; simp at hj
      | some x =>
        rw [hk] at hj
        simp at hj
        subst hj
        rw [Addr.add_lit]
        have := (hcell j x hk).2.2
        rw [Nat.mul_one] at this
        exact this) (fun u hu => by obtain ⟨x, _, rfl⟩ := List.mem_map.1 hu; rfl) (by unfold maxLen; omega) (by omega) hb
    refine ⟨v', w', hr, ⟨hZ2, ?_⟩, h3, h5⟩
    rw [List.length_append, List.map_append]
    exact h2

theorem I64_one (xs : List Int) : ∀ u ∈ xs.map I64, u.oneCell' = true := fun u hu => by obtain ⟨x, _, rfl⟩ := List.mem_map.1 hu; rfl

theorem run_copy_ints {w : World} {base g n cap cap' : Nat} {ao : Option Addr} {zs xs : List Int} (ho : OwI w base (.slice (some ⟨g, 0, none⟩) n cap) zs) (hn : n = zs.length)
    (hs : Is w (.slice ao xs.length cap') xs) (hle : xs.length ≤ n) :
    ∃ w', (Builtin.copy_ #[27, 27] 3 #[.slice (some ⟨g, 0, none⟩) n cap, .slice ao xs.length cap']).run Tryd.prog w = .ok (goInt xs.length) w' ∧
      OwI w' base (.slice (some ⟨g, 0, none⟩) n cap) (xs ++ zs.drop xs.length) ∧ w.grownBy w' (some g) := by
  subst hn
  have hsz : (Tryd.prog.info? 3).map (·.size) = some 1 := by kernel_rfl
  by_cases h0 : xs.length = 0
  · obtain rfl : xs = [] := List.eq_nil_of_length_eq_zero h0
    have := run_copy_none (P := Tryd.prog) w 27 27 3 3 (some ⟨g, 0, none⟩) ao zs.length cap 0 cap' under_ints hsz (by simp)
    exact ⟨w, this, by simpa using ho, World.grownBy.refl _ _⟩
  · have hZ := hs.range
    obtain ⟨ao', c', hv, hc, hm, hx⟩ := hs
    simp only [Value.slice.injEq] at hv
    obtain ⟨rfl, _, rfl⟩ := hv
    obtain ⟨g', off, rfl, hg, hx⟩ := hx (by omega)
    rcases ho.2.2 with ⟨hv, _⟩ | ⟨g2, cap2, cur, hv, hb, hg2, hc2, hm2, hs2, ht2⟩
    · simp at hv
    · simp only [Value.slice.injEq, Option.some.injEq, Addr.mk.injEq, and_true, true_and] at hv
      obtain ⟨rfl, rfl⟩ := hv
      have hmin : xs.length = Nat.min xs.length zs.length := (Nat.min_eq_left hle).symm
      have hcur : zs.length ≤ cur.size := by omega
      have := run_copy_row (P := Tryd.prog) w 27 27 3 3 g 0 zs.length cap ⟨g', off, none⟩ xs.length cap' cur 3 (xs.map I64) under_ints hsz hg2
        (by simpa using hmin) (by
          intro j v hj
          simp only [List.getElem?_map, Option.map_eq_some_iff] at hj
          obtain ⟨x, hx1, rfl⟩ := hj
          rw [Addr.add_lit]
          have := (hx j x hx1).2.2
          rw [Nat.mul_one] at this
          exact this) (by simp; omega) (I64_one xs)
      refine ⟨_, by simpa using this, ⟨?_, ?_, .inr ⟨g, cap, _, by rw [List.length_append, List.length_drop, show xs.length + (zs.length - xs.length) = zs.length by omega], hb, setRow_heap w g cur _ 3 _ hg2, ?_, hm2, ?_, ?_⟩⟩, ?_⟩
      · intro k y hk
        by_cases hkl : k < xs.length
        · rw [List.getElem?_append_left hkl] at hk
          exact hZ k y hk
        · rw [List.getElem?_append_right (by omega), List.getElem?_drop] at hk
          exact ho.1 _ y hk
      · simp
      · simp; omega
      · simp; omega
      · have hl : (xs.map I64).length = xs.length := by simp
        rw [List.length_append, List.length_drop, show xs.length + (zs.length - xs.length) = zs.length by omega]
        simp only [List.map_append, List.map_drop, ← ht2, List.drop_take, Nat.mul_one]
        rw [List.take_append, hl, List.take_of_length_le (by simp; omega)]
      · exact ⟨rfl, rfl, rfl, by simp [World.setRow], fun k _ hk => setRow_other w g k _ (fun e => hk (by simp [e]))⟩

/-- A row and three marks behind it. -/
def marked (xs : List Int) : List Int := xs ++ [77, 77, 77]

theorem mark_step (xs R : List Int) (k : Nat) : (xs ++ List.replicate k 77) ++ 77 :: R = (xs ++ List.replicate (k + 1) 77) ++ R := by
  rw [List.replicate_succ']; simp

theorem get_midI {α : Type} {L : List α} {x : α} {R : List α} {k : Nat} (hk : L.length = k) : (L ++ x :: R)[k]? = some x := by subst hk; simp

set_option maxRecDepth 100000 in
set_option maxHeartbeats 800000 in
theorem lent_any (v : Value) (xs : List Int) (w : World) (h : Is w v xs) (hlen : xs.length * 8 ≤ 140737488351232) :
    Calls Tryd.prog 12 #[v] w fun e w' => ∃ g, e = .returned (.slice (some ⟨g, 0, none⟩) xs.length (xs.length + 3)) ∧ OwI w' w.heap.size (.slice (some ⟨g, 0, none⟩) (xs.length + 3) (xs.length + 3)) (marked xs) ∧ Below w.heap.size w w' := by
  obtain ⟨ao, cap, rfl, hao, hca, hcl⟩ := h.flatI
  obtain ⟨i0, hi, hz0, hz1, hz2⟩ := info_parts info_int
  have HS := hid h
  clear h hcl
  go_enter Tryd.func12, Tryd.ntmps12
  go_wp2_with (first
    | (at_make; refine wpList_make_full _ rfl _ _ 27 rfl w.heap.size 3 i0 (.int .i64 0) 1 under_ints hi hz0 hz1 .i64 .i64 _ _ (xs.length + 3) rfl rfl (by omega) (by omega) (by rw [hz2]; omega) (by unfold maxLen; omega) (Nat.le_refl _) ?_; intro w0 hown0 hgrow0))
  have hb0 : Below w.heap.size w w0 := (Below.refl _ _).grown hgrow0 (Nat.le_refl _) (by intro k hk; cases hk)
  obtain ⟨w1, hrun, ho1, hg1⟩ := run_copy_ints (OwI.made hown0) (by simp) (HS.out.kp (Kp.of_below hb0)) (by omega)
  have hb1 : Below w.heap.size w w1 := hb0.grown hg1 hb0.size (by intro k hk; simp at hk; omega)
  have HO : Hid (OwI w1 w.heap.size (.slice (some ⟨w.heap.size, 0, none⟩) (xs.length + 3) (xs.length + 3)) ((xs ++ List.replicate (xs.length - xs.length) 77) ++ List.replicate (xs.length + 3 - xs.length) 0)) := by
    have := ho1
    rw [List.drop_replicate] at this
    rw [Nat.sub_self, List.replicate_zero, List.append_nil]
    exact this
  rw [hrun]
  clear hown0 hgrow0 ho1 hg1 hb0
  go_wp2
  clear hrun
  go_loopw [4] (fun i wr => ∃ p : Nat, xs.length ≤ p ∧ p ≤ xs.length + 3 ∧ i = .int .i64 p ∧ OwI wr w.heap.size (.slice (some ⟨w.heap.size, 0, none⟩) (xs.length + 3) (xs.length + 3)) ((xs ++ List.replicate (p - xs.length) 77) ++ List.replicate (xs.length + 3 - p) 0) ∧ Below w.heap.size w wr)
    (fun i _ => xs.length + 3 - (intOf i).toNat)
  case atStart => exact ⟨xs.length, Nat.le_refl _, by omega, rfl, HO.out, hb1⟩
  case round =>
    obtain ⟨p, hp1, hp2, rfl, hown, hbl⟩ := hrel
    have HW := hid hown
    clear hown HO hb1
    by_cases hlt : p < xs.length + 3
    · have hw := HW.out
      rw [show xs.length + 3 - p = (xs.length + 3 - (p + 1)) + 1 by omega, List.replicate_succ] at hw
      have hlp : (xs ++ List.replicate (p - xs.length) 77).length = p := by simp; omega
      obtain ⟨hcell, hfr⟩ := hw.at (k := p) (get_midI hlp)
      have hq := hw.put hbl (Nat.le_refl _) (by simp; omega) (k := p) (z := 77) (by omega) (ys := (xs ++ List.replicate (p + 1 - xs.length) 77) ++ List.replicate (xs.length + 3 - (p + 1)) 0) (by rw [set_midI _ _ _ _ _ hlp, mark_step, show p - xs.length + 1 = p + 1 - xs.length by omega])
      have HP := hid hq
      clear hq hw hlp
      go_wp2
      go_roundw
      case rel => exact ⟨p + 1, by omega, by omega, by go_num, HP.out.1, HP.out.2⟩
      case measure => simp [intOf]; omega
    · have hp' : p = xs.length + 3 := by omega
      subst hp'
      have hw := HW.out
      rw [Nat.sub_self, List.replicate_zero, List.append_nil, show xs.length + 3 - xs.length = 3 by omega] at hw
      have HW2 : Hid (OwI wr w.heap.size (.slice (some ⟨w.heap.size, 0, none⟩) (xs.length + 3) (xs.length + 3)) (marked xs)) := hw
      clear hw HW
      go_wp2
      go_ret
      exact ⟨_, rfl, HW2.out, hbl⟩

theorem marked_lo {xs : List Int} {k : Nat} {x : Int} (h : xs[k]? = some x) : (marked xs)[k]? = some x := by
  have hk := (List.getElem?_eq_some_iff.1 h).1
  unfold marked
  rw [List.getElem?_append_left hk, h]

theorem marked_hi {xs : List Int} {k : Nat} (h1 : ¬ k < xs.length) (h2 : k < xs.length + 3) : (marked xs)[k]? = some 77 := by
  unfold marked
  rw [List.getElem?_append_right (by omega)]
  obtain ⟨j, rfl⟩ : ∃ j, k = xs.length + j := ⟨k - xs.length, by omega⟩
  rw [Nat.add_sub_cancel_left]
  match j, (by omega : j < 3) with
  | 0, _ => rfl
  | 1, _ => rfl
  | 2, _ => rfl

theorem cutI {w : World} {base g n cap : Nat} {xs ys : List Int} (h : OwI w base (.slice (some ⟨g, 0, none⟩) n cap) (xs ++ ys)) : Is w (.slice (some ⟨g, 0, none⟩) xs.length cap) xs := by
  obtain ⟨ao, cp, hv, hc, hm, hx⟩ := h.is
  simp only [Value.slice.injEq] at hv
  obtain ⟨rfl, _, rfl⟩ := hv
  rw [List.length_append] at hc
  refine ⟨_, cap, rfl, by omega, hm, fun h0 => ?_⟩
  obtain ⟨g', off, e, hg, hcell⟩ := hx (by rw [List.length_append]; omega)
  simp only [Option.some.injEq, Addr.mk.injEq, and_true] at e
  obtain ⟨rfl, rfl⟩ := e
  exact ⟨g, 0, rfl, hg, fun k x hk => hcell k x (by rw [List.getElem?_append_left (List.getElem?_eq_some_iff.1 hk).1]; exact hk)⟩

set_option maxRecDepth 100000 in
set_option maxHeartbeats 800000 in
theorem kept_any (g base : Nat) (u : Value) (xs : List Int) (w : World) (h : OwI w base (.slice (some ⟨g, 0, none⟩) (xs.length + 3) (xs.length + 3)) (marked xs)) (h' : Is w u xs) (hlen : xs.length * 8 ≤ 140737488351232) :
    Calls Tryd.prog 18 #[.slice (some ⟨g, 0, none⟩) xs.length (xs.length + 3), u] w fun e w' => e = .returned (.bool true) ∧ ∃ n, w' = w.drewN n := by
  obtain ⟨bo, cap', rfl, hbo, hcb, hcl'⟩ := h'.flatI
  have HO := hid h
  clear h h'
  go_enter Tryd.func18, Tryd.ntmps18
  go_wp2
  go_loopw [5] (fun i wr => ∃ k : Nat, k ≤ xs.length + 3 ∧ i = .int .i64 k ∧ ∃ n, wr = w.drewN n) (fun i _ => xs.length + 3 - (intOf i).toNat)
  case atStart => exact ⟨0, Nat.zero_le _, rfl, 0, rfl⟩
  case round =>
    obtain ⟨k, hk, rfl, n, rfl⟩ := hrel
    by_cases hlt : k < xs.length + 3
    · by_cases hkx : k < xs.length
      · obtain ⟨g', off', x, rfl, hx1, hx2⟩ := hcl' k hkx
        obtain ⟨hcell, _⟩ := HO.out.at (marked_lo hx1)
        clear hx1 hcl'
        have d2 : decide (xs.length ≤ k) = false := by simp; omega
        have hxx : (x != x) = false := by simp
        go_wp2
        go_quiet (fail)
        go_wp2
        go_roundw
        case rel => exact ⟨k + 1, by omega, by go_num, _, rfl⟩
        case measure => simp [intOf]; omega
      · obtain ⟨hcell, _⟩ := HO.out.at (marked_hi hkx hlt)
        have hcell0 : w.cell? ⟨g, k, none⟩ = some (.int .i64 77) := hcell
        clear hcell hcl'
        have d1 : decide (k < xs.length) = false := by simp; omega
        have d2 : decide (xs.length ≤ k) = true := by simp; omega
        go_wp2
        go_quiet (fail)
        go_wp2
        go_roundw
        case rel => exact ⟨k + 1, by omega, by go_num, _, rfl⟩
        case measure => simp [intOf]; omega
    · have hk' : k = xs.length + 3 := by omega
      clear hcl'
      go_wp2
      go_ret
      exact ⟨rfl, n, rfl⟩

theorem grown_stepT {a b c : World} {r r' : Option Nat} (h : a.grownBy b r) (h' : b.grownBy c r') (hr : ∀ g, r' = some g → r = some g ∨ a.heap.size ≤ g) : a.grownBy c r :=
  ⟨h'.os.trans h.os, h'.tape.trans h.tape, h'.output.trans h.output, Nat.le_trans h.size h'.size, fun k hk hne => (h'.block k (Nat.lt_of_lt_of_le hk h.size) (fun e => by
    rcases hr k e.symm with h1 | h1
    · exact hne h1.symm
    · omega)).trans (h.block k hk hne)⟩

set_option maxRecDepth 100000 in
set_option maxHeartbeats 1000000 in
theorem spoil_any (v : Value) (xs : List Int) (base : Nat) (w : World) (h : OwI w base v xs) (hb0 : base ≤ w.heap.size) (h64 : (xs.length + 2) * 8 ≤ 140737488355328) :
    Calls Tryd.prog 19 #[v] w fun e w' => e = .returned (.tuple #[]) ∧ w.grownBy w' v.ownBlock := by
  obtain ⟨ao, cap, rfl, hc1, hc2⟩ := h.shape
  unfold maxLen at hc2
  have HO := hid h
  clear h
  go_enter Tryd.func19, Tryd.ntmps19
  go_wp2
  go_loopw [2] (fun i wr => ∃ (k : Nat) (Z : List Int), k ≤ xs.length ∧ i = .int .i64 k ∧ Z.length = xs.length ∧ OwI wr base (.slice ao xs.length cap) Z ∧ w.grownBy wr (Value.slice ao xs.length cap).ownBlock) (fun i _ => xs.length - (intOf i).toNat)
  case atStart => exact ⟨0, xs, Nat.zero_le _, rfl, rfl, HO.out, World.grownBy.refl _ _⟩
  case round =>
    obtain ⟨k, Z, hk, rfl, hZ, hown, hgr⟩ := hrel
    have HZ := hid hZ
    have HW := hid hown
    have HG := hid hgr
    clear hZ hown hgr
    by_cases hlt : k < xs.length
    · obtain ⟨g, cp, hv⟩ := own_form (v := .slice ao xs.length cap) HW.out.2 (by rw [HZ.out]; omega)
      simp only [Value.slice.injEq] at hv
      obtain ⟨rfl, _, rfl⟩ := hv
      obtain ⟨x, hx⟩ : ∃ x, Z[k]? = some x := ⟨_, List.getElem?_eq_getElem (by rw [HZ.out]; exact hlt)⟩
      obtain ⟨hcell, hfr⟩ := HW.out.at hx
      have hp := (HW.out.put (B := 0) (w0 := wr) (Below.refl _ _) (Nat.zero_le _) HZ.out.symm (k := k) (z := 99) (by omega) rfl).1
      have HP := hid hp
      have HG2 := hid (grown_trans HG.out (set_grown wr g k (.int .i64 99)))
      clear hp hx
      go_wp2
      go_roundw
      case rel => exact ⟨k + 1, _, by omega, by go_num, by rw [List.length_set, HZ.out], HP.out, HG2.out⟩
      case measure => simp [intOf]; omega
    · have hk' : k = xs.length := by omega
      subst hk'
      obtain ⟨v4, w4, hr4, ho4, hg4, hn4⟩ := join_two 27 (u := .slice (some ⟨wr.heap.size, 0, none⟩) 2 2) (es := [98, 97]) (HW.out.later (below_alloc (.cells #[.int .i64 98, .int .i64 97] 3))) (is_new wr [98, 97] _ (by intro x hx; simp at hx; omega) (by simp)) (Nat.le_trans hb0 (Nat.le_trans HG.out.size (below_alloc _).size)) (by rw [HZ.out]; simp; omega)
      have hl4 : (Z ++ [98, 97]).length = xs.length + 2 := by rw [List.length_append, HZ.out]; rfl
      obtain ⟨g4, c4, rfl⟩ := own_form ho4.2 (by rw [hl4]; omega)
      rw [hl4] at hr4 ho4
      obtain ⟨hc4, hf4⟩ := ho4.at (k := xs.length + 1) (x := 97) (by rw [← HZ.out, List.getElem?_append_right (by omega)]; simp)
      have HR4 := hid hr4
      have hcc : xs.length + 2 ≤ c4 ∧ c4 ≤ 9223372036854775807 := by
        obtain ⟨_, c9, e9, h8, h9⟩ := ho4.shape
        simp only [Value.slice.injEq] at e9
        obtain ⟨_, _, rfl⟩ := e9
        rw [hl4] at h8
        unfold maxLen at h9
        omega
      have HF : Hid (w.grownBy (w4.setCell ⟨g4, xs.length + 1, none⟩ (.int .i64 96)) (Value.slice ao xs.length cap).ownBlock) := by
        have g1 := grown_trans HG.out (grown_of_below (below_alloc (.cells #[.int .i64 98, .int .i64 97] 3)) _)
        have g2 := grown_trans g1 hg4
        refine grown_stepT g2 (set_grown w4 g4 (xs.length + 1) (.int .i64 96)) (fun g e => ?_)
        cases e
        rcases hn4 with hn | hn
        · exact .inl hn.symm
        · simp only [Value.ownBlock, Option.some.injEq] at hn
          have := g1.size
          exact .inr (by omega)
      have hwn : IntKind.i64.wrap ((xs.length : Int) + 2 - 1) = (xs.length : Int) + 1 := by rw [IntWalk.i64_in _ ⟨by omega, by omega⟩]; omega
      clear hr4 ho4 hg4 hn4 hl4
      go_wp2_with (first
        | (at_builtin; refine wpList_append_run rfl _ _ _ rfl _ _ rfl rfl HR4.out ?_))
      go_end0
      exact ⟨rfl, HF.out⟩

set_option maxRecDepth 100000 in
theorem three_any (w : World) : Calls Tryd.prog 29 #[] w fun e w' => ∃ v', e = .returned v' ∧ Sg w' v' sumS ∧ Below w.heap.size w w' := by
  go_enter Tryd.func29, Tryd.ntmps29
  go_wp2
  go_ret
  refine ⟨_, rfl, sg_lit (p := sumS) (by simp) (by decide) ⟨⟨by decide, by decide, by decide, cell_new rfl, cell_new rfl⟩, ⟨by decide, by decide, by decide, cell_new rfl, cell_new rfl⟩, ⟨by decide, by decide, by decide, cell_new rfl, cell_new rfl⟩, trivial⟩, below_alloc _⟩

/-- Which of n places. -/
def whichN (c : Int) (n : Nat) : Nat := ((if c < 0 then -(c + 1) else c) % (n : Int)).toNat

theorem which_lt (c : Int) (n : Nat) (hn : 0 < n) : whichN c n < n := by
  unfold whichN
  have h1 := Int.emod_nonneg (if c < 0 then -(c + 1) else c) (b := (n : Int)) (by omega)
  have h2 := Int.emod_lt_of_pos (if c < 0 then -(c + 1) else c) (b := (n : Int)) (by omega)
  omega

end Go.Proofs.YtjcgngfidnechaaDoor

/- slices.Grow, slices.Concat walked. -/
namespace Go.Proofs.YtjcgngfidnechaaDoor
open Go.RowKit Go.Maps Go.BigFrame

theorem wpList_append_run2 {P : Program} {w w' : World} {ops : Array Oper} {rest : List Oper} {o : Oper} {a : Act} {v' : Value} {Q : Exit → Act → World → Prop} (hgd : o.guard = none) (s x : Operand) (t t2 : TypeId)
    (ho : o.op = .call { callee := .builtin .append, args := #[s, x], argTypes := #[t, t2] }) (v u : Value) (hs : a.eval s = v) (hx : a.eval x = u)
    (hr : (Builtin.append_ #[t, t2] o.type #[v, u]).run P w = .ok v' w') (h : wpList P ops Q rest (a.put o.dst v') w') : wpList P ops Q (o :: rest) a w := by
  refine wpList_plain hgd fun K hK => ?_
  unfold Oper.wp execOp
  simp only [ho, resolve, invoke, builtin, Sem.run_bind, Sem.run_pure, Result.andThen_ok, List.map_toArray, List.map_cons, List.map_nil, hs, hx, hr]
  exact hK _ _ h

theorem zero_ints (n : Nat) : (Builtin.zeroCells (Value.int .i64 0).cells n).size = n := by
  simp [Builtin.zeroCells, Value.cells]

set_option maxRecDepth 100000 in
theorem growS_any (n : Nat) (w : World) (h : n * 8 ≤ 140737488355328) :
    Calls Tryd.prog 56 #[.slice none 0 0, .int .i64 n] w fun e w' => ∃ v', e = .returned v' ∧ OwI w' w.heap.size v' [] ∧ Below w.heap.size w w' := by
  obtain ⟨i0, hi, hz0, hz1, hz2⟩ := info_parts info_int
  by_cases h0 : n = 0
  · subst h0
    go_enter Tryd.func56, Tryd.ntmps56
    go_wp2
    go_ret
    exact ⟨_, rfl, nilI _ _, Below.refl _ _⟩
  · have hn1 : ¬ (n : Int) < 0 := by omega
    have hn2 : (0 : Int) < (n : Int) := by omega
    have hr := Lib.run_append_nil_zeros (P := Tryd.prog) w 27 3 27 3 i0 (.int .i64 0) .i64 .i64 under_ints (by kernel_rfl) hi hz0 n (by omega) (by rw [hz1]; decide) (by omega) (by rw [hz2]; omega)
    obtain ⟨C, hC⟩ : ∃ C, C = grownCap w n 0 3 := ⟨_, rfl⟩
    rw [← hC] at hr
    have HR := hid hr
    have HC : Hid (n ≤ C ∧ C ≤ maxLen) := by
      rw [hC]
      exact ⟨grownCap_ge _ _ _ _, grownCap_le_maxLen _ _ _ _ (by unfold maxLen; omega)⟩
    clear hr hC
    go_enter Tryd.func56, Tryd.ntmps56
    go_wp2_with (first
      | (at_builtin; refine wpList_append_run2 rfl _ _ _ _ rfl _ _ rfl rfl HR.out ?_))
    go_ret
    refine ⟨_, rfl, ⟨fun k x hk => (by simp at hk), rfl, .inr ⟨w.heap.size, C, _, rfl, Nat.le_refl _, heap_alloc_new _ _, Nat.zero_le _, HC.out.2, ?_, rfl⟩⟩, below_step (below_alloc _) (drawn_below1 _)⟩
    have h1 := zero_ints n
    have h2 := zero_ints (C - n)
    simp only [Value.cells] at h1 h2
    have := HC.out.1
    rw [Array.size_append, h1, h2]
    omega

theorem sumT_take {l : List (List Int)} {k : Nat} {r : List Int} (h : l[k]? = some r) : ((l.take (k + 1)).map List.length).sum = ((l.take k).map List.length).sum + r.length := by
  rw [take_get h, List.map_append, List.sum_append]
  simp

theorem sumT_le (l : List (List Int)) (k : Nat) : ((l.take k).map List.length).sum ≤ (l.map List.length).sum := by
  have : (l.map List.length).sum = ((l.take k).map List.length).sum + ((l.drop k).map List.length).sum := by
    rw [← List.sum_append, ← List.map_append, List.take_append_drop]
  omega

theorem flat_len (l : List (List Int)) : l.flatten.length = (l.map List.length).sum := List.length_flatten

set_option maxRecDepth 100000 in
set_option maxHeartbeats 1600000 in
theorem concat_any (v : Value) (l : List (List Int)) (w : World) (h : Rs w v l) (hl : (l.map List.length).sum * 8 ≤ 140737488355328) :
    Calls Tryd.prog 43 #[v] w fun e w' => ∃ v', e = .returned v' ∧ OwI w' w.heap.size v' l.flatten ∧ Below w.heap.size w w' := by
  obtain ⟨ao, cap, rfl, hao, hca, q0⟩ := Row.flat h
  unfold maxLen at hca
  have HR := hid h
  clear h q0
  go_enter Tryd.func43, Tryd.ntmps43
  go_wp2
  go_loopw [3, 11] (fun x i wr => ∃ k : Nat, k ≤ l.length ∧ i = .int .i64 k ∧ x = .int .i64 ((((l.take k).map List.length).sum : Nat) : Int) ∧ wr = w) (fun _ i _ => l.length - (intOf i).toNat)
  case atStart => exact ⟨0, Nat.zero_le _, rfl, rfl, rfl⟩
  case round =>
    obtain ⟨k, hk, rfl, rfl, hw⟩ := hrel
    have hw8 := hw.symm
    subst hw8
    clear hw
    have hsl := sumT_le l k
    have hsl1 := sumT_le l (k + 1)
    by_cases hlt : k < l.length
    · obtain ⟨g, off, a, r, c, rfl, hm, hc0, hir, hrl⟩ := HR.out.at hlt
      have hst := sumT_take hm
      have HSt := hid hst
      obtain ⟨S, hS⟩ : ∃ S, S = ((l.take k).map List.length).sum := ⟨_, rfl⟩
      rw [← hS] at hsl hst HSt ⊢
      have hw1 : IntKind.i64.wrap ((S : Int) + (r.length : Int)) = ((S + r.length : Nat) : Int) := by rw [IntWalk.i64_in _ ⟨by omega, by omega⟩]; omega
      have hn0 : ¬ ((S + r.length : Nat) : Int) < 0 := by omega
      clear hm hir hS
      go_wp2
      go_roundw
      case rel => exact ⟨k + 1, by omega, by go_num, by rw [HSt.out]; exact congrArg (Value.int .i64) (by omega), trivial⟩
      case measure => simp [intOf]; omega
    · have hke : k = l.length := by omega
      subst hke
      rw [List.take_length]
      have HG := hid (growS_any (l.map List.length).sum w hl)
      go_wp2_with fail
      refine HG.out.mono ?_
      rintro e w1 ⟨v1, rfl, ho1, hb1⟩
      have HO1 := hid ho1
      have HB1 := hid hb1
      clear ho1 hb1 HG hsl hsl1 hlt hk
      go_wp2
      go_loopw [6, 27] (fun x i wr => ∃ k : Nat, k ≤ l.length ∧ i = .int .i64 k ∧ OwI wr w.heap.size x (l.take k).flatten ∧ Below w.heap.size w wr) (fun _ i _ => l.length - (intOf i).toNat)
      case atStart => exact ⟨0, Nat.zero_le _, rfl, HO1.out, HB1.out⟩
      case round =>
        obtain ⟨k, hk, rfl, how, hbl⟩ := hrel
        have HO := hid how
        have HB := hid hbl
        have hsl := sumT_le l k
        have hsl1 := sumT_le l (k + 1)
        clear how
        by_cases hlt : k < l.length
        · obtain ⟨g, off, a, r, c, rfl, hm, hc0, hir, hrl⟩ := (HR.out.kp (Kp.of_below hbl)).at hlt
          have hst := sumT_take hm
          have HFl : Hid ((l.take (k + 1)).flatten = (l.take k).flatten ++ r) := by
            show _ = _
            rw [take_get hm, List.flatten_append]
            simp
          obtain ⟨v4, w4, hr4, ho4, hg4⟩ := join_ints 27 HO.out hir HB.out.size (by rw [flat_len]; omega)
          have HR4 := hid hr4
          have HO4 := hid ho4
          have HB4 : Hid (Below w.heap.size w w4) := HB.out.grown hg4 HB.out.size (fun j hj => own_blk HO.out.2 hj)
          clear hm hir hr4 ho4 hg4 hst hbl
          go_wp2_with (first
            | (at_builtin; refine wpList_append_run rfl _ _ _ rfl _ _ rfl rfl HR4.out ?_))
          go_roundw
          case rel => exact ⟨k + 1, by omega, by go_num, by rw [HFl.out]; exact HO4.out, HB4.out⟩
          case measure => simp [intOf]; omega
        · have hke : k = l.length := by omega
          subst hke
          rw [List.take_length] at HO
          go_wp2
          go_ret
          exact ⟨_, rfl, HO.out, HB.out⟩

end Go.Proofs.YtjcgngfidnechaaDoor

/- Replace and Above walked. -/
namespace Go.Proofs.YtjcgngfidnechaaDoor
open Go.RowKit Go.Maps Go.BigFrame

set_option maxRecDepth 100000 in
set_option maxHeartbeats 800000 in
theorem above_any (sv v : Value) (sig : List Sy) (t : List Int) (p : Int) (w : World) (hs : Sg w sv sig) (h : Is w v t) (hT : Tabs w) (hb : t.length * 16 ≤ 140737488351232) (hp1 : -9223372036854775808 ≤ p) (hp2 : p ≤ 9223372036854775807) :
    Calls Tryd.prog 22 #[sv, v, .int .i64 p] w fun e w' => ∃ v', e = .returned (.tuple #[v', .int .i64 (placeE sig t p)]) ∧ OwI w' w.heap.size v' (aboveL sig t p) ∧ Below w.heap.size w w' := by
  have HS := hid hs
  have HI := hid h
  have HT := hid hT
  have HP := hid (And.intro hp1 hp2)
  clear hs h hT hp1 hp2
  go_enter Tryd.func22, Tryd.ntmps22
  go_wp2_with fail
  refine (check_any sv v sig t w HS.out HI.out HT.out (by omega)).mono ?_
  rintro e w1 ⟨rfl, hb1⟩
  have HB1 := hid hb1
  clear hb1
  by_cases hte : termE sig t = 0
  · have HTe := hid hte
    have HPl : Hid (placeE sig t p = (endP sig t p).2) := by show _ = _; unfold placeE; rw [if_pos hte]
    have ha := sigE_ok (term_parts hte).1
    have HA := hid ha
    rw [hte]
    clear hte ha
    go_wp2_with fail
    refine (endOf_any sv v sig t p w1 (HS.out.kp (Kp.of_below HB1.out)) (HI.out.kp (Kp.of_below HB1.out)) HA.out (by omega) HP.out.1 HP.out.2).mono ?_
    rintro e w2 ⟨rfl, hw2⟩
    have hw8 := hw2.symm
    subst hw8
    clear hw2
    by_cases he : (endP sig t p).2 = 0
    · have hpl := HPl.out.trans he
      obtain ⟨_, hrt, k, _, hk, hkl, _⟩ := placeE_ok hpl
      subst hk
      have HE := hid hpl
      have HAb : Hid (aboveL sig t k = (abD sig t k).map fun i : Nat => (i : Int)) := by show _ = _; unfold aboveL; rw [if_pos hpl, Int.toNat_natCast]
      have HGr := hid (grow_any sv _ sig _ _ (HS.out.kp (Kp.of_below HB1.out)) (HI.out.kp (Kp.of_below HB1.out)) HA.out hrt hb)
      have HRt := hid hrt
      generalize (endP sig t k).1 = E1
      rw [he]
      clear hpl he hrt
      go_wp2_with fail
      refine HGr.out.mono ?_
      rintro e w2 ⟨u, T, A, rfl, hgr, htv, hA, hb2⟩
      have hsz : T.size = t.length := by
        have h1 := growR_sizes sig t
        rw [hgr] at h1
        simp only [sizes] at h1
        omega
      have hav := abv_eq HA.out t.length t (Nat.le_refl _) HRt.out T 0 k hgr hkl
      rw [Nat.zero_add] at hav
      have HAv : Hid (aboveL sig t k = abv T 0 k) := by
        show _ = _
        rw [HAb.out, hav]
        refine List.map_congr_left fun i _ => ?_
        rw [Nat.zero_add]
      have HPa := hid (placesAbove_any u T A k w2 htv (fun b hb => (hA b hb).2) (by omega) (by omega))
      have HB2 := hid (below_step HB1.out hb2)
      clear hgr htv hA hb2 hsz HGr hav HAb
      go_wp2_with fail
      refine HPa.out.mono ?_
      rintro e w3 ⟨v', rfl, ho, hb3⟩
      have HO := hid (ho.mono HB2.out.size)
      have HB3 := hid (below_step HB2.out hb3)
      clear ho hb3 HPa
      go_wp2
      go_ret2
      exact ⟨_, by rw [HE.out]; rfl, by rw [HAv.out]; exact HO.out, HB3.out⟩
    · have HK : Hid (aboveL sig t p = []) := by show _ = _; unfold aboveL; rw [if_neg (fun h => he (HPl.out.symm.trans h))]
      generalize (endP sig t p).2 = E at he HPl ⊢
      generalize (endP sig t p).1 = E1
      have heb : (E != 0) = true := by simpa using he
      go_wp2
      go_ret2
      exact ⟨_, by rw [HPl.out]; rfl, by rw [HK.out]; exact nilI _ _, HB1.out⟩
  · have HPl : Hid (placeE sig t p = termE sig t) := by show _ = _; unfold placeE; rw [if_neg hte]
    have HK : Hid (aboveL sig t p = []) := by show _ = _; unfold aboveL; rw [if_neg (fun h => hte (HPl.out.symm.trans h))]
    generalize termE sig t = E at hte HPl ⊢
    have heb : (E != 0) = true := by simpa using hte
    go_wp2
    go_ret2
    exact ⟨_, by rw [HPl.out]; rfl, by rw [HK.out]; exact nilI _ _, HB1.out⟩

/-- What is wrong with what Replace is asked. -/
def replE (sig : List Sy) (t : List Int) (p : Int) (u : List Int) : Int :=
  if termE sig t = 0 then (if rowE sig u = 0 then (if placeE sig t p = 0 then (if 512 < p.toNat + u.length + (t.length - (p.toNat + nodes sig t p.toNat)) then 2 else 0) else placeE sig t p) else rowE sig u) else termE sig t

def replL (sig : List Sy) (t : List Int) (p : Int) (u : List Int) : List Int := if replE sig t p u = 0 then t.take p.toNat ++ (u ++ t.drop (p.toNat + nodes sig t p.toNat)) else []

theorem repl_none {sig : List Sy} {t u : List Int} {p : Int} (h : replE sig t p u ≠ 0) : replL sig t p u = [] := by
  unfold replL
  rw [if_neg h]

theorem repl_ok {sig : List Sy} {t u : List Int} {k : Nat} (ht : termE sig t = 0) (hu : rowE sig u = 0) (hk : k < t.length) :
    replE sig t k u = (if 512 < k + u.length + (t.length - (k + nodes sig t k)) then 2 else 0) ∧ replL sig t k u = (if 512 < k + u.length + (t.length - (k + nodes sig t k)) then [] else t.take k ++ (u ++ t.drop (k + nodes sig t k))) := by
  have h1 : replE sig t k u = if 512 < k + u.length + (t.length - (k + nodes sig t k)) then 2 else 0 := by
    unfold replE
    rw [if_pos ht, if_pos hu, if_pos (place_in ht hk), Int.toNat_natCast]
  refine ⟨h1, ?_⟩
  unfold replL
  rw [h1, Int.toNat_natCast]
  by_cases h2 : 512 < k + u.length + (t.length - (k + nodes sig t k))
  · rw [if_pos h2, if_pos h2, if_neg (by omega)]
  · rw [if_neg h2, if_neg h2, if_pos rfl]

/-- The end of a row. -/
theorem Is.tail {w : World} {b off cap k : Nat} {t : List Int} (h : Is w (.slice (some ⟨b, off, none⟩) t.length cap) t) (hk : k ≤ t.length) : Is w (.slice (some ⟨b, if cap = k then off else off + k, none⟩) (t.length - k) (cap - k)) (t.drop k) := by
  by_cases he : k = t.length
  · subst he
    rw [List.drop_length, Nat.sub_self]
    obtain ⟨ao, cap', e, h1, h2, h3⟩ := h
    simp only [Value.slice.injEq, true_and] at e
    obtain ⟨_, rfl⟩ := e
    exact Row.nil (by omega)
  · have h1 : t.length ≤ cap := by
      obtain ⟨ao, cap', e, h1, _⟩ := h
      simp only [Value.slice.injEq, true_and] at e
      obtain ⟨_, rfl⟩ := e
      exact h1
    have h2 := h.mid (k := k) (m := t.length - k) (by omega) (by omega)
    rw [List.take_of_length_le (by rw [List.length_drop]; exact Nat.le_refl _)] at h2
    rw [if_neg (by omega)]
    exact h2

/-- The beginning of a row. -/
theorem Is.head {w : World} {b off cap k : Nat} {t : List Int} (h : Is w (.slice (some ⟨b, off, none⟩) t.length cap) t) (hk : k ≤ t.length) : Is w (.slice (some ⟨b, off, none⟩) k cap) (t.take k) := by
  obtain ⟨ao, cap', e, h1, h2, h3⟩ := h
  simp only [Value.slice.injEq, true_and] at e
  obtain ⟨rfl, rfl⟩ := e
  have hl : (t.take k).length = k := by rw [List.length_take]; omega
  refine ⟨some ⟨b, off, none⟩, cap, by rw [hl], by omega, h2, fun h0 => ?_⟩
  rw [hl] at h0
  obtain ⟨g, o, e, hg, hE⟩ := h3 (by omega)
  simp only [Option.some.injEq, Addr.mk.injEq, and_true] at e
  obtain ⟨rfl, rfl⟩ := e
  refine ⟨b, off, rfl, hg, fun j x hj => hE j x ?_⟩
  have := (List.getElem?_eq_some_iff.1 hj).1
  rw [List.getElem?_take_of_lt (by omega)] at hj
  exact hj

set_option maxRecDepth 100000 in
set_option maxHeartbeats 1600000 in
theorem replace_any (sv v uv : Value) (sig : List Sy) (t u : List Int) (p : Int) (w : World) (hs : Sg w sv sig) (h : Is w v t) (hu : Is w uv u) (hT : Tabs w) (hb : t.length * 8 ≤ 140737488351232) (hbu : u.length * 8 ≤ 140737488351232) (hp1 : -9223372036854775808 ≤ p) (hp2 : p ≤ 9223372036854775807) :
    Calls Tryd.prog 26 #[sv, v, .int .i64 p, uv] w fun e w' => ∃ v', e = .returned (.tuple #[v', .int .i64 (replE sig t p u)]) ∧ OwI w' w.heap.size v' (replL sig t p u) ∧ Below w.heap.size w w' := by
  obtain ⟨ao, cap, rfl, hao, hca, _⟩ := Row.flat h
  obtain ⟨uo, uc, rfl, huo, hcu, _⟩ := Row.flat hu
  unfold maxLen at hca hcu
  have HS := hid hs
  have HI := hid h
  have HU := hid hu
  have HT := hid hT
  have HP := hid (And.intro hp1 hp2)
  clear hs h hT hp1 hp2 hu
  go_enter Tryd.func26, Tryd.ntmps26
  go_wp2_with fail
  refine (check_any sv _ sig t w HS.out HI.out HT.out (by omega)).mono ?_
  rintro e w1 ⟨rfl, hb1⟩
  have HB1 := hid hb1
  clear hb1
  by_cases hte : termE sig t = 0
  · have HTe := hid hte
    have HPl : Hid (placeE sig t p = (endP sig t p).2) := by show _ = _; unfold placeE; rw [if_pos hte]
    have ha := sigE_ok (term_parts hte).1
    have HA := hid ha
    rw [hte]
    clear hte ha
    go_wp2_with fail
    refine (checkRow_any sv _ sig u w1 (HS.out.kp (Kp.of_below HB1.out)) (HU.out.kp (Kp.of_below HB1.out)) HA.out hbu).mono ?_
    rintro e w2 ⟨rfl, hw2⟩
    have hw8 := hw2.symm
    subst hw8
    clear hw2
    by_cases hue : rowE sig u = 0
    · have HUe := hid hue
      rw [hue]
      clear hue
      go_wp2_with fail
      refine (endOf_any sv _ sig t p w1 (HS.out.kp (Kp.of_below HB1.out)) (HI.out.kp (Kp.of_below HB1.out)) HA.out (by omega) HP.out.1 HP.out.2).mono ?_
      rintro e w2 ⟨rfl, hw2⟩
      have hw8 := hw2.symm
      subst hw8
      clear hw2
      by_cases he : (endP sig t p).2 = 0
      · have hpl := HPl.out.trans he
        obtain ⟨_, hrt, k, _, hk, hkl, _⟩ := placeE_ok hpl
        subst hk
        obtain ⟨n1, n2, n3, _⟩ := at_place HA.out hrt hkl
        obtain ⟨r1, r2⟩ := repl_ok HTe.out HUe.out hkl
        have HR1 := hid r1
        have HR2 := hid r2
        rw [place_end HTe.out hkl]
        obtain ⟨n, hn⟩ : ∃ n, n = nodes sig t k := ⟨_, rfl⟩
        rw [← hn] at n1 n2 HR1 HR2 ⊢
        obtain ⟨b, off, c0, rfl, _⟩ := HI.out.at (k := 0) (by omega)
        have hw1 : IntKind.i64.wrap ((k : Int) + (u.length : Int)) = (k : Int) + (u.length : Int) := IntWalk.i64_in _ ⟨by omega, by omega⟩
        have hw2 : IntKind.i64.wrap ((k : Int) + (u.length : Int) + (t.length : Int)) = (k : Int) + (u.length : Int) + (t.length : Int) := IntWalk.i64_in _ ⟨by omega, by omega⟩
        have hw3 : IntKind.i64.wrap ((k : Int) + (u.length : Int) + (t.length : Int) - ((k : Int) + (n : Int))) = ((k + u.length + (t.length - (k + n)) : Nat) : Int) := by rw [IntWalk.i64_in _ ⟨by omega, by omega⟩]; omega
        clear hpl he hrt n3 r1 r2 hn
        by_cases hbig : 512 < k + u.length + (t.length - (k + n))
        · rw [if_pos hbig] at HR1 HR2
          have hbg : (512 : Int) < ((k + u.length + (t.length - (k + n)) : Nat) : Int) := by omega
          go_wp2
          go_ret2
          exact ⟨_, by rw [HR1.out]; rfl, by rw [HR2.out]; exact nilI _ _, HB1.out⟩
        · rw [if_neg hbig] at HR1 HR2
          have hbg : ¬ (512 : Int) < ((k + u.length + (t.length - (k + n)) : Nat) : Int) := by omega
          have hkc : k ≤ cap := by omega
          have hknc : k + n ≤ cap := by omega
          have HCon : Hid (∀ x3 : Value, Is w1 x3 (t.drop (k + n)) → Calls Tryd.prog 43 #[.slice (some ⟨w1.heap.size, 0, none⟩) 3 3] (w1.alloc (.cells #[.slice (some ⟨b, off, none⟩) k cap, .slice uo u.length uc, x3] 27)).drew
              fun e w' => ∃ v', e = .returned v' ∧ OwI w' w1.heap.size v' (t.take k ++ (u ++ t.drop (k + n))) ∧ Below w1.heap.size w1 w') := by
            intro x3 h3
            have hbl : Below w1.heap.size w1 (w1.alloc (.cells #[.slice (some ⟨b, off, none⟩) k cap, .slice uo u.length uc, x3] 27)).drew := below_step (below_alloc _) (drawn_below1 _)
            have hkp := Kp.of_below hbl
            have i1 := ((HI.out.kp (Kp.of_below HB1.out)).head (k := k) (by omega)).kp hkp
            have i2 := (HU.out.kp (Kp.of_below HB1.out)).kp hkp
            have i3 := h3.kp hkp
            have hc : ∀ (j : Nat) (x : Value), #[Value.slice (some ⟨b, off, none⟩) k cap, .slice uo u.length uc, x3][j]? = some x → (w1.alloc (.cells #[.slice (some ⟨b, off, none⟩) k cap, .slice uo u.length uc, x3] 27)).drew.cell? ⟨w1.heap.size, j, none⟩ = some x := fun j x hj => cell_new hj
            have hl1 : (t.take k).length * 8 ≤ 140737488351232 := by rw [List.length_take]; omega
            have hl3 : (t.drop (k + n)).length * 8 ≤ 140737488351232 := by rw [List.length_drop]; omega
            have hrs : Rs (w1.alloc (.cells #[.slice (some ⟨b, off, none⟩) k cap, .slice uo u.length uc, x3] 27)).drew (.slice (some ⟨w1.heap.size, 0, none⟩) 3 3) [t.take k, u, t.drop (k + n)] :=
              rs_lit (p := [t.take k, u, t.drop (k + n)]) (by show w1.heap.size < (w1.alloc _).heap.size; simp) (by simp) ⟨⟨hl1, _, hc 0 _ rfl, i1⟩, ⟨hbu, _, hc 1 _ rfl, i2⟩, ⟨hl3, _, hc 2 _ rfl, i3⟩, trivial⟩
            refine (concat_any _ _ _ hrs (by simp only [List.map_cons, List.map_nil, List.sum_cons, List.sum_nil, List.length_take, List.length_drop]; omega)).mono ?_
            rintro e w9 ⟨v9, rfl, ho9, hb9⟩
            refine ⟨v9, rfl, ?_, below_step hbl hb9⟩
            have := ho9.mono hbl.size
            simpa using this
          have hI3 := (HI.out.kp (Kp.of_below HB1.out)).tail (k := k + n) n2
          have HC3 := hid (HCon.out _ hI3)
          clear hI3 HCon
          by_cases hcn : cap = k + n
          · subst hcn
            rw [if_pos rfl, Nat.sub_self, show t.length - (k + n) = 0 by omega] at HC3
            go_wp2_with fail
            clear hw1 hw2 hw3 hbg hbig
            go_region_with (first
              | (refine HC3.out.mono ?_; rintro e w9 ⟨v9, rfl, ho9, hb9⟩; have HO9 := hid (ho9.mono HB1.out.size); have HB9 := hid (below_step HB1.out hb9); clear ho9 hb9))
            all_goals (go_wp2; go_ret2; exact ⟨_, by rw [HR1.out]; rfl, by rw [HR2.out]; exact HO9.out, HB9.out⟩)
          · rw [if_neg hcn] at HC3
            go_wp2_with fail
            clear hw1 hw2 hw3 hbg hbig
            go_region_with (first
              | (refine HC3.out.mono ?_; rintro e w9 ⟨v9, rfl, ho9, hb9⟩; have HO9 := hid (ho9.mono HB1.out.size); have HB9 := hid (below_step HB1.out hb9); clear ho9 hb9))
            all_goals (go_wp2; go_ret2; exact ⟨_, by rw [HR1.out]; rfl, by rw [HR2.out]; exact HO9.out, HB9.out⟩)
      · have HR1 : Hid (replE sig t p u = (endP sig t p).2) := by show _ = _; unfold replE; rw [if_pos HTe.out, if_pos HUe.out, if_neg (fun h => he (HPl.out.symm.trans h)), HPl.out]
        have HR2 := hid (repl_none (fun h => he (HR1.out.symm.trans h)))
        generalize (endP sig t p).2 = E at he HPl HR1 ⊢
        generalize (endP sig t p).1 = E1
        have heb : (E != 0) = true := by simpa using he
        go_wp2
        go_ret2
        exact ⟨_, by rw [HR1.out]; rfl, by rw [HR2.out]; exact nilI _ _, HB1.out⟩
    · have HR1 : Hid (replE sig t p u = rowE sig u) := by show _ = _; unfold replE; rw [if_pos HTe.out, if_neg hue]
      have HR2 := hid (repl_none (fun h => hue (HR1.out.symm.trans h)))
      generalize rowE sig u = E at hue HR1 ⊢
      have heb : (E != 0) = true := by simpa using hue
      go_wp2
      go_ret2
      exact ⟨_, by rw [HR1.out]; rfl, by rw [HR2.out]; exact nilI _ _, HB1.out⟩
  · have HR1 : Hid (replE sig t p u = termE sig t) := by show _ = _; unfold replE; rw [if_neg hte]
    have HR2 := hid (repl_none (fun h => hte (HR1.out.symm.trans h)))
    generalize termE sig t = E at hte HR1 ⊢
    have heb : (E != 0) = true := by simpa using hte
    go_wp2
    go_ret2
    exact ⟨_, by rw [HR1.out]; rfl, by rw [HR2.out]; exact nilI _ _, HB1.out⟩

end Go.Proofs.YtjcgngfidnechaaDoor

/- The examples of layer 3 come out true. -/
namespace Go.Proofs.YtjcgngfidnechaaDoor
open Go.RowKit Go.Maps Go.BigFrame

theorem sh_p0 : placeE sumS [2, 1, -1, -2] 0 = 0 := by kernel_rfl
theorem sh_p1 : placeE sumS [2, 1, -1, -2] 1 = 0 := by kernel_rfl
theorem sh_p2 : placeE sumS [2, 1, -1, -2] 2 = 0 := by kernel_rfl
theorem sh_kids : kidsL sumS [2, 1, -1, -2] 0 = [1, 3] := by kernel_rfl
theorem sh_sub : subL sumS [2, 1, -1, -2] 1 = [1, -1] := by kernel_rfl
theorem sh_replE : replE sumS [2, 1, -1, -2] 1 [0] = 0 := by kernel_rfl
theorem sh_replL : replL sumS [2, 1, -1, -2] 1 [0] = [2, 0, -2] := by kernel_rfl
theorem sh_above : aboveL sumS [2, 1, -1, -2] 2 = [0, 1] := by kernel_rfl
theorem sh_vars : varsL [2, -5, 2, -1, -5] = [4, 0] := by kernel_rfl
theorem sh_none : termE sumS [2, 0] = 31 := by kernel_rfl
theorem sh_all : termE sumS [2, 1, -1, -2] = 0 := by kernel_rfl
theorem sh_none2 : sigE [(⟨#[49, 102]⟩, 0)] = 34 := by kernel_rfl

theorem small_ints (xs : List Int) (h : (xs.all fun x => decide (-100 ≤ x ∧ x ≤ 100)) = true) : ∀ x ∈ xs, -9223372036854775808 ≤ x ∧ x ≤ 9223372036854775807 := fun x hx => by
  have := List.all_eq_true.1 h x hx
  simp at this
  omega

theorem call_same3 (w : World) (v : Value) (xs : List Int) (h : Is w v xs) (hz : (xs.all fun x => decide (-100 ≤ x ∧ x ≤ 100)) = true) (hl : xs.length ≤ 1000) :
    Calls Tryd.prog 17 #[v, .slice (some ⟨w.heap.size, 0, none⟩) xs.length xs.length] (w.alloc (.cells (xs.map I64).toArray 3)) fun e w' => e = .returned (.bool true) ∧ Below w.heap.size w w' := by
  refine (same3_any v _ xs xs _ (h.kp (Kp.of_below (below_alloc _))) (is_new w xs _ (small_ints xs hz) hl)).mono ?_
  rintro e w' ⟨rfl, n, hw⟩
  rw [decide_eq_true rfl]
  exact ⟨rfl, below_step (below_alloc _) (drawn_below hw)⟩

theorem call_vars3 (w : World) : Calls Tryd.prog 15 #[.slice (some ⟨w.heap.size, 0, none⟩) 5 5] (w.alloc (Obj.cells #[Value.int IntKind.i64 2, Value.int IntKind.i64 (-5), Value.int IntKind.i64 2, Value.int IntKind.i64 (-1), Value.int IntKind.i64 (-5)] 3))
    fun e w' => ∃ v', e = .returned v' ∧ Is w' v' [4, 0] ∧ Below w.heap.size w w' := by
  refine (vars_any _ [2, -5, 2, -1, -5] _ (is_new w [2, -5, 2, -1, -5] _ (small_ints _ (by decide)) (by decide)) (by decide)).mono ?_
  rintro e w' ⟨v', rfl, ho, hb⟩
  rw [sh_vars] at ho
  exact ⟨v', rfl, ho.is, below_step (below_alloc _) hb⟩

theorem call_none (w : World) (sv : Value) (hs : Sg w sv sumS) (hT : Tabs w) : Calls Tryd.prog 13 #[sv, .slice (some ⟨w.heap.size, 0, none⟩) 2 2] (w.alloc (Obj.cells #[Value.int IntKind.i64 2, Value.int IntKind.i64 0] 3))
    fun e w' => e = .returned (.int .i64 31) ∧ Below w.heap.size w w' := by
  refine (check_any sv _ sumS [2, 0] _ (hs.kp (Kp.of_below (below_alloc _))) (is_new w [2, 0] _ (small_ints _ (by decide)) (by decide)) (hT.below (below_alloc _)) (by decide)).mono ?_
  rintro e w' ⟨rfl, hb⟩
  rw [sh_none]
  exact ⟨rfl, below_step (below_alloc _) hb⟩

theorem call_sig (w : World) (hT : Tabs w) : Calls Tryd.prog 10 #[.slice (some ⟨w.heap.size, 0, none⟩) 1 1] (w.alloc (Obj.cells #[Value.string ⟨#[49, 102]⟩, Value.int IntKind.i64 0] 40))
    fun e w' => e = .returned (.int .i64 34) ∧ Below w.heap.size w w' := by
  refine (checkSig_any _ [(⟨#[49, 102]⟩, 0)] _ (sg_lit (p := [(⟨#[49, 102]⟩, 0)]) (by simp) (by decide) ⟨⟨by decide, by decide, by decide, cell_new rfl, cell_new rfl⟩, trivial⟩) (hT.below (below_alloc _))).mono ?_
  rintro e w' ⟨rfl, hb⟩
  rw [sh_none2]
  exact ⟨rfl, below_step (below_alloc _) hb⟩

theorem call_repl (w : World) (sv v : Value) (hs : Sg w sv sumS) (h : Is w v [2, 1, -1, -2]) (hT : Tabs w) : Calls Tryd.prog 26 #[sv, v, .int .i64 1, .slice (some ⟨w.heap.size, 0, none⟩) 1 1] (w.alloc (Obj.cells #[Value.int IntKind.i64 0] 3))
    fun e w' => ∃ v', e = .returned (.tuple #[v', .int .i64 0]) ∧ Is w' v' [2, 0, -2] ∧ Below w.heap.size w w' := by
  refine (replace_any sv v _ sumS [2, 1, -1, -2] [0] 1 _ (hs.kp (Kp.of_below (below_alloc _))) (h.kp (Kp.of_below (below_alloc _))) (is_new w [0] _ (small_ints _ (by decide)) (by decide)) (hT.below (below_alloc _)) (by decide) (by decide) (by decide) (by decide)).mono ?_
  rintro e w' ⟨v', rfl, ho, hb⟩
  rw [sh_replE]
  rw [sh_replL] at ho
  exact ⟨v', rfl, ho.is, below_step (below_alloc _) hb⟩

set_option maxRecDepth 100000 in
set_option maxHeartbeats 2000000 in
theorem shown3_any (w : World) (hT : Tabs w) : Calls Tryd.prog 9 #[] w fun e w' => e = .returned (.bool true) ∧ Below w.heap.size w w' := by
  have HT := hid hT
  clear hT
  go_enter Tryd.func9, Tryd.ntmps9
  go_wp2_with fail
  refine (three_any w).mono ?_
  rintro e w1 ⟨v1, rfl, hs1, hb1⟩
  obtain ⟨so, sc, rfl, _, hsc, _⟩ := Row.flat hs1
  have HS1 := hid (hs1.kp (Kp.of_below (below_alloc (.cells #[.int .i64 2, .int .i64 1, .int .i64 (-1), .int .i64 (-2)] 3))))
  have HI1 := hid (is_new w1 [2, 1, -1, -2] 3 (small_ints _ (by decide)) (by decide))
  have HB1 := hid (below_step hb1 (below_alloc (.cells #[.int .i64 2, .int .i64 1, .int .i64 (-1), .int .i64 (-2)] 3)))
  have HK := hid (kids_any _ _ sumS [2, 1, -1, -2] 0 _ HS1.out HI1.out (HT.out.below HB1.out) (by decide) (by decide) (by decide))
  clear hs1 hb1
  go_wp2_with fail
  refine HK.out.mono ?_
  rintro e w2 ⟨vk, rfl, ho2, hb2⟩
  rw [sh_p0]
  rw [sh_kids] at ho2
  have HRk := hid ho2.is
  have HS2 := hid (HS1.out.kp (Kp.of_below hb2))
  have HI2 := hid (HI1.out.kp (Kp.of_below hb2))
  have HB2 := hid (below_step HB1.out hb2)
  clear ho2 hb2 HK HS1 HI1 HB1
  have HK := hid (sub_any _ _ sumS [2, 1, -1, -2] 1 _ HS2.out HI2.out (HT.out.below HB2.out) (by decide) (by decide) (by decide))
  go_wp2_with fail
  refine HK.out.mono ?_
  rintro e w3 ⟨vu, rfl, ho3, hb3⟩
  rw [sh_p1]
  rw [sh_sub] at ho3
  have HRk3 := hid (HRk.out.kp (Kp.of_below hb3))
  have HRu := hid ho3.is
  have HS3 := hid (HS2.out.kp (Kp.of_below hb3))
  have HI3 := hid (HI2.out.kp (Kp.of_below hb3))
  have HB3 := hid (below_step HB2.out hb3)
  clear ho3 hb3 HK HS2 HI2 HB2 HRk
  go_wp2_with fail
  refine (call_repl w3 _ _ HS3.out HI3.out (HT.out.below HB3.out)).mono ?_
  rintro e w4 ⟨vv, rfl, ho4, hb4⟩
  have HRk4 := hid (HRk3.out.kp (Kp.of_below hb4))
  have HRu4 := hid (HRu.out.kp (Kp.of_below hb4))
  have HRv := hid ho4
  have HS4 := hid (HS3.out.kp (Kp.of_below hb4))
  have HI4 := hid (HI3.out.kp (Kp.of_below hb4))
  have HB4 := hid (below_step HB3.out hb4)
  clear ho4 hb4 HS3 HI3 HB3 HRk3 HRu
  have HK := hid (above_any _ _ sumS [2, 1, -1, -2] 2 _ HS4.out HI4.out (HT.out.below HB4.out) (by decide) (by decide) (by decide))
  go_wp2_with fail
  refine HK.out.mono ?_
  rintro e w5 ⟨va, rfl, ho5, hb5⟩
  rw [sh_p2]
  rw [sh_above] at ho5
  have HRk5 := hid (HRk4.out.kp (Kp.of_below hb5))
  have HRu5 := hid (HRu4.out.kp (Kp.of_below hb5))
  have HRv5 := hid (HRv.out.kp (Kp.of_below hb5))
  have HRa := hid ho5.is
  have HS5 := hid (HS4.out.kp (Kp.of_below hb5))
  have HI5 := hid (HI4.out.kp (Kp.of_below hb5))
  have HB5 := hid (below_step HB4.out hb5)
  clear ho5 hb5 HK HS4 HI4 HB4 HRk4 HRu4 HRv
  go_wp2_with fail
  refine (call_vars3 w5).mono ?_
  rintro e w6 ⟨vl, rfl, ho6, hb6⟩
  have HRk6 := hid (HRk5.out.kp (Kp.of_below hb6))
  have HRu6 := hid (HRu5.out.kp (Kp.of_below hb6))
  have HRv6 := hid (HRv5.out.kp (Kp.of_below hb6))
  have HRa6 := hid (HRa.out.kp (Kp.of_below hb6))
  have HRl := hid ho6
  have HS6 := hid (HS5.out.kp (Kp.of_below hb6))
  have HI6 := hid (HI5.out.kp (Kp.of_below hb6))
  have HB6 := hid (below_step HB5.out hb6)
  clear ho6 hb6 HS5 HI5 HB5 HRk5 HRu5 HRv5 HRa
  go_wp2_with fail
  refine (call_same3 w6 vk [1, 3] HRk6.out (by decide) (by decide)).mono ?_
  rintro e w7 ⟨rfl, hb7⟩
  have HRu7 := hid (HRu6.out.kp (Kp.of_below hb7))
  have HRv7 := hid (HRv6.out.kp (Kp.of_below hb7))
  have HRa7 := hid (HRa6.out.kp (Kp.of_below hb7))
  have HRl7 := hid (HRl.out.kp (Kp.of_below hb7))
  have HB7 := hid hb7
  clear hb7 HRk6 HRu6 HRv6 HRa6 HRl
  go_wp2_with fail
  refine (call_same3 w7 vu [1, -1] HRu7.out (by decide) (by decide)).mono ?_
  rintro e w8 ⟨rfl, hb8⟩
  have HRv8 := hid (HRv7.out.kp (Kp.of_below hb8))
  have HRa8 := hid (HRa7.out.kp (Kp.of_below hb8))
  have HRl8 := hid (HRl7.out.kp (Kp.of_below hb8))
  have HB8 := hid (below_step HB7.out hb8)
  clear hb8 HRu7 HRv7 HRa7 HRl7 HB7
  go_wp2_with fail
  refine (call_same3 w8 vv [2, 0, -2] HRv8.out (by decide) (by decide)).mono ?_
  rintro e w9 ⟨rfl, hb9⟩
  have HRa9 := hid (HRa8.out.kp (Kp.of_below hb9))
  have HRl9 := hid (HRl8.out.kp (Kp.of_below hb9))
  have HB9 := hid (below_step HB8.out hb9)
  clear hb9 HRv8 HRa8 HRl8 HB8
  go_wp2_with fail
  refine (call_same3 w9 va [0, 1] HRa9.out (by decide) (by decide)).mono ?_
  rintro e w10 ⟨rfl, hb10⟩
  have HRl10 := hid (HRl9.out.kp (Kp.of_below hb10))
  have HB10 := hid (below_step HB9.out hb10)
  clear hb10 HRa9 HRl9 HB9
  go_wp2_with fail
  refine (call_same3 w10 vl [4, 0] HRl10.out (by decide) (by decide)).mono ?_
  rintro e w11 ⟨rfl, hb11⟩
  have HB11 := hid (below_step HB10.out hb11)
  have HS11 := hid (HS6.out.kp (Kp.of_below HB11.out))
  have HI11 := hid (HI6.out.kp (Kp.of_below HB11.out))
  have HW11 := hid (below_step HB6.out HB11.out)
  clear hb11 HRl10 HB10 HB11 HS6 HI6 HB6
  go_wp2_with fail
  refine (call_none w11 _ HS11.out (HT.out.below HW11.out)).mono ?_
  rintro e w12 ⟨rfl, hb12⟩
  have HS12 := hid (HS11.out.kp (Kp.of_below hb12))
  have HI12 := hid (HI11.out.kp (Kp.of_below hb12))
  have HW12 := hid (below_step HW11.out hb12)
  clear hb12 HS11 HI11 HW11
  go_wp2_with fail
  refine (call_sig w12 (HT.out.below HW12.out)).mono ?_
  rintro e w13 ⟨rfl, hb13⟩
  have HS13 := hid (HS12.out.kp (Kp.of_below hb13))
  have HI13 := hid (HI12.out.kp (Kp.of_below hb13))
  have HW13 := hid (below_step HW12.out hb13)
  clear hb13 HS12 HI12 HW12
  have HK := hid (check_any _ _ sumS [2, 1, -1, -2] _ HS13.out HI13.out (HT.out.below HW13.out) (by decide))
  go_wp2_with fail
  refine HK.out.mono ?_
  rintro e w14 ⟨rfl, hb14⟩
  rw [sh_all]
  have HW14 := hid (below_step HW13.out hb14)
  clear hb14 HS13 HI13 HW13 HK
  go_wp2
  go_ret
  exact ⟨rfl, HW14.out⟩

end Go.Proofs.YtjcgngfidnechaaDoor
