/- Texts of the proof, one behind the other. -/
import Derived.Test.YtcoaabgaolblfaaDoorOwn13
import Derived.Test.YtcoaabgaolblfaaDoorOwn11
import Derived.Test.YtcoaabgaolblfaaDoorOwn4
import Derived.Test.YtcoaabgaolblfaaDoorOwn10
import Derived.Test.YtcoaabgaolblfaaDoorOwn12
import Derived.Test.YtcoaabgaolblfaaDoorOwn3
/- Rows of pairs written over; whatever is of another type stays. -/
namespace Go.Proofs.YtcoaabgaolblfaaDoor
open Go.RowKit Go.Maps

theorem cellsQ_set : ∀ (ps : List (Int × Int)) (k : Nat) (x : Int × Int), k < ps.length → ((cellsQ ps).set (k * 2) (.int .i64 x.1)).set (k * 2 + 1) (.int .i64 x.2) = cellsQ (ps.set k x)
  | [], k, x, h => by simp at h
  | y :: ps, 0, x, _ => rfl
  | y :: ps, k + 1, x, h => by
    have e : cellsQ (y :: ps) = .int .i64 y.1 :: .int .i64 y.2 :: cellsQ ps := rfl
    have e2 : cellsQ ((y :: ps).set (k + 1) x) = .int .i64 y.1 :: .int .i64 y.2 :: cellsQ (ps.set k x) := rfl
    rw [e, e2, show (k + 1) * 2 = k * 2 + 1 + 1 by omega]
    simp only [List.set_cons_succ]
    rw [cellsQ_set ps k x (by simpa using h)]

theorem OwQ.put {w : World} {base g cap : Nat} {M : List (Int × Int)} (h : OwQ w base (.slice (some ⟨g, 0, none⟩) M.length cap) M) {k : Nat} (hk : k < M.length) {a b : Int} (ha : -9223372036854775808 ≤ a ∧ a ≤ 9223372036854775807) (hb : -9223372036854775808 ≤ b ∧ b ≤ 9223372036854775807) :
    OwQ ((w.setCell ⟨g, k * 2, none⟩ (.int .i64 a)).setCell ⟨g, k * 2 + 1, none⟩ (.int .i64 b)) base (.slice (some ⟨g, 0, none⟩) M.length cap) (M.set k (a, b)) := by
  have h1 := (World.ownsRow.stored h.2 (k * 2) (.int .i64 a)).1
  have h2 := (World.ownsRow.stored h1 (k * 2 + 1) (.int .i64 b)).1
  refine ⟨fun j x hj => ?_, ?_⟩
  · rw [List.getElem?_set] at hj
    split at hj
    · cases hj
      exact ⟨ha, hb⟩
    · exact h.1 j x hj
  · rw [cellsQ_set M k (a, b) hk] at h2
    rw [List.length_set]
    exact h2

theorem OwQ.blk {w : World} {base g cap n : Nat} {M : List (Int × Int)} (h : OwQ w base (.slice (some ⟨g, 0, none⟩) n cap) M) : base ≤ g ∧ ∃ c, w.heap[g]? = some (.cells c 43 (0, 0)) := by
  rcases h.2.2 with ⟨hv, _⟩ | ⟨g', cap', cur, hv, hb, hg, _⟩
  · cases hv
  · cases hv
    exact ⟨hb, cur, hg⟩

theorem Pc.put {w : World} {v : Value} {ps : List (Int × Int)} (h : Pc w v ps) {g k : Nat} {u : Value} (hg : ∃ c, w.heap[g]? = some (.cells c 43 (0, 0))) : Pc (w.setCell ⟨g, k, none⟩ u) v ps := by
  obtain ⟨c, hg⟩ := hg
  obtain ⟨gp, T, hv, h1, h2, h3⟩ := h
  exact ⟨gp, T, hv, h1, (heap_setCell_other _ _ _ _ (type_ne h2 hg (by decide))).trans h2, h3⟩

theorem Rc.put {w : World} {v : Value} {ps : List (Int × Int)} (h : Rc w v ps) {g k : Nat} {u : Value} (hg : ∃ c, w.heap[g]? = some (.cells c 43 (0, 0))) : Rc (w.setCell ⟨g, k, none⟩ u) v ps := by
  obtain ⟨c, hg⟩ := hg
  obtain ⟨base, gp, ro, rc, rb, N, U, hv, h1, h2⟩ := h
  refine ⟨base, gp, ro, rc, rb, N, U, hv, ⟨(heap_setCell_other _ _ _ _ (type_ne h1.ptr hg (by decide))).trans h1.ptr, h1.lo, ⟨h1.own.1, ?_⟩, fun i hi => (heap_setCell_other _ _ _ _ (type_ne (h1.rows i hi) hg (by decide))).trans (h1.rows i hi), h1.low, h1.inj⟩, h2⟩
  rcases h1.own.2 with h0 | ⟨g', cap, cur, hv', hb, hg', r⟩
  · exact .inl h0
  · exact .inr ⟨g', cap, cur, hv', hb, (heap_setCell_other _ _ _ _ (type_ne hg' hg (by decide))).trans hg', r⟩

theorem pair_put {w : World} {g k : Nat} {u : Value} (hg : ∃ c, w.heap[g]? = some (.cells c 43 (0, 0))) : ∃ c, (w.setCell ⟨g, k, none⟩ u).heap[g]? = some (.cells c 43 (0, 0)) := by
  obtain ⟨c, hg⟩ := hg
  exact ⟨_, heap_setCell_same w g k _ _ u hg⟩

/-- The row written over as far as k. -/
def ovr (ps : List (Int × Int)) (k : Nat) : List (Int × Int) := List.replicate k (0, 1) ++ ps.drop k

theorem ovr_len {ps : List (Int × Int)} {k : Nat} (h : k ≤ ps.length) : (ovr ps k).length = ps.length := by simp [ovr]; omega

theorem ovr_at (ps : List (Int × Int)) (k : Nat) : (ovr ps k)[k]? = ps[k]? := by
  unfold ovr
  rw [List.getElem?_append_right (by simp), List.length_replicate, Nat.sub_self, List.getElem?_drop, Nat.add_zero]

theorem ovr_step {ps : List (Int × Int)} {k : Nat} (h : k < ps.length) : (ovr ps k).set k (0, 1) = ovr ps (k + 1) := by
  unfold ovr
  rw [List.drop_eq_getElem_cons h, List.set_append_right _ _ (by simp), List.length_replicate, Nat.sub_self, List.set_cons_zero, List.replicate_succ', List.append_assoc]
  rfl

theorem run_eq_pair (w : World) (a b : Int) : (Op.equalIn 10000 43 (.agg #[.int .i64 a, .int .i64 b]) (.agg #[.int .i64 a, .int .i64 b])).run Tryd.prog w = .ok true w := by
  obtain ⟨i, hi, _, _, _⟩ := info_parts3 info_int
  have hu : Tryd.prog.underlying 3 = some (.int .i64) := by kernel_rfl
  have hp : Tryd.prog.underlying 43 = some (.array 2 3) := by kernel_rfl
  have hc : Tryd.prog.cellsOf 3 = 1 := by kernel_rfl
  have part0 : ∀ (cs : Array Value) (k : Nat) (u : Value), cs[k]? = some u → (part 3 cs k).run Tryd.prog w = .ok u w := fun cs k u h => by
    simp [part, isAgg, Sem.run_bind, run_underlying hu w, h]
  rw [run_equalIn_array w 9999 _ _ hp hi, hc]
  have h0 := part0 #[.int .i64 a, .int .i64 b] 0 _ rfl
  have h1 := part0 #[.int .i64 a, .int .i64 b] 1 _ rfl
  have h4 := run_equalIn_int (P := Tryd.prog) w 9998 3 .i64 .i64 a a hu
  have h5 := run_equalIn_int (P := Tryd.prog) w 9998 3 .i64 .i64 b b hu
  show (Op.eqItems 9999 3 1 #[.int .i64 a, .int .i64 b] #[.int .i64 a, .int .i64 b] [0, 1]).run Tryd.prog w = _
  simp [Op.eqItems, Sem.run_bind, h0, h1, h4, h5]

theorem RefO.ok {n : Int} {ps : List (Int × Int)} {w w' : World} {e : Ending} (h : RefO n ps w e w') (h0 : closeE n ps = 0) : Below w.heap.size w w' ∧ ∃ g, e = .returned (.tuple #[.pointer (some ⟨g, 0, none⟩), .int .i64 0]) ∧ Rc w' (.pointer (some ⟨g, 0, none⟩)) ps := by
  rcases h.2 with ⟨h1, _⟩ | ⟨_, h2⟩
  · exact absurd h0 h1
  · exact ⟨h.1, h2⟩

theorem RefO.err {n c : Int} {ps : List (Int × Int)} {w w' : World} {e : Ending} (h : RefO n ps w e w') (h0 : closeE n ps = c) (hc : c ≠ 0) : Below w.heap.size w w' ∧ e = .returned (.tuple #[.pointer none, .int .i64 c]) := by
  subst h0
  rcases h.2 with ⟨_, h1⟩ | ⟨h2, _⟩
  · exact ⟨h.1, h1⟩
  · exact absurd h2 hc

end Go.Proofs.YtcoaabgaolblfaaDoor

/- What the law file's helpers do: same, lent, kept, spoil, three, which. -/
namespace Go.Proofs.YtcoaabgaolblfaaDoor
open Go.RowKit Go.Maps Go.BigFrame

theorem join_two (ty : TypeId) {w : World} {base : Nat} {x u : Value} {xs es : List Int} (ho : OwI w base x xs) (hs : Is w u es) (hb : base ≤ w.heap.size) (hl : (xs.length + es.length) * 8 ≤ 140737488355328) :
    ∃ v' w', (Builtin.append_ #[24, 24] ty #[x, u]).run Tryd.prog w = .ok v' w' ∧ OwI w' base v' (xs ++ es) ∧ w.grownBy w' x.ownBlock ∧ (v'.ownBlock = x.ownBlock ∨ v'.ownBlock = some w.heap.size) := by
  obtain ⟨i0, hi, hz0, hz1, hz2⟩ := info_parts info_int
  have hZ : ZI es := fun k x hk => by
    obtain ⟨ao, cap, rfl, _, _, hx⟩ := Row.flat hs
    obtain ⟨_, _, y, _, hy, h1, h2, _⟩ := hx k (List.getElem?_eq_some_iff.1 hk).1
    rw [hk] at hy
    cases hy
    exact ⟨h1, h2⟩
  have hZ2 : ZI (xs ++ es) := fun k y hk => by
    by_cases hkl : k < xs.length
    · rw [List.getElem?_append_left hkl] at hk
      exact ho.1 k y hk
    · rw [List.getElem?_append_right (by omega)] at hk
      exact hZ _ y hk
  obtain ⟨ao, cap, rfl, hc, hm, hx⟩ := hs
  by_cases h0 : es.length = 0
  · obtain rfl : es = [] := List.eq_nil_of_length_eq_zero h0
    obtain ⟨bo, bc, rfl, hbc, _⟩ := ho.shape
    refine ⟨_, w, run_append_nothing w 24 24 ty 3 i0 under_ints hi _ xs.length bc hbc _ ?_, by rw [List.append_nil]; exact ho, World.grownBy.refl _ _, .inl rfl⟩
    cases ao with
    | none => exact Src.ofNil w under_ints _
    | some a => exact Src.ofSlice w under_ints a 0 _ [] (by simp) (fun j u hj => (by simp at hj)) (fun u hu => (by simp at hu))
  · obtain ⟨g', off, rfl, hg, hcell⟩ := hx (by omega)
    obtain ⟨v', w', hr, h2, h3, _, h5⟩ := run_append_own_at (P := Tryd.prog) w base 24 ty 3 i0 _ 1 8 under_ints hi hz0 hz1 hz2 rfl (by decide) _ xs.length (xs.map I64) ho.2 ⟨g', off, none⟩ es.length cap (es.map I64) (by simp) (fun j u hj => by
      rw [List.getElem?_map] at hj
      cases hk : es[j]? with
      | none => rw [hk] at hj; simp at hj
      | some x =>
        rw [hk] at hj
        simp at hj
        subst hj
        rw [Addr.add_lit]
        have := (hcell j x hk).2.2
        rw [Nat.mul_one] at this
        exact this) (fun u hu => by obtain ⟨x, _, rfl⟩ := List.mem_map.1 hu; rfl) (by unfold maxLen; omega) (by omega) hb
    refine ⟨v', w', hr, ⟨hZ2, ?_⟩, h3, h5⟩
    rw [List.length_append, List.map_append]
    exact h2

theorem I64_one (xs : List Int) : ∀ u ∈ xs.map I64, u.oneCell' = true := fun u hu => by obtain ⟨x, _, rfl⟩ := List.mem_map.1 hu; rfl

theorem run_copy_ints {w : World} {base g n cap cap' : Nat} {ao : Option Addr} {zs xs : List Int} (ho : OwI w base (.slice (some ⟨g, 0, none⟩) n cap) zs) (hn : n = zs.length)
    (hs : Is w (.slice ao xs.length cap') xs) (hle : xs.length ≤ n) :
    ∃ w', (Builtin.copy_ #[24, 24] 3 #[.slice (some ⟨g, 0, none⟩) n cap, .slice ao xs.length cap']).run Tryd.prog w = .ok (goInt xs.length) w' ∧
      OwI w' base (.slice (some ⟨g, 0, none⟩) n cap) (xs ++ zs.drop xs.length) ∧ w.grownBy w' (some g) := by
  subst hn
  have hsz : (Tryd.prog.info? 3).map (·.size) = some 1 := by kernel_rfl
  by_cases h0 : xs.length = 0
  · obtain rfl : xs = [] := List.eq_nil_of_length_eq_zero h0
    have := run_copy_none (P := Tryd.prog) w 24 24 3 3 (some ⟨g, 0, none⟩) ao zs.length cap 0 cap' under_ints hsz (by simp)
    exact ⟨w, this, by simpa using ho, World.grownBy.refl _ _⟩
  · have hZ := hs.range
    obtain ⟨ao', c', hv, hc, hm, hx⟩ := hs
    simp only [Value.slice.injEq] at hv
    obtain ⟨rfl, _, rfl⟩ := hv
    obtain ⟨g', off, rfl, hg, hx⟩ := hx (by omega)
    rcases ho.2.2 with ⟨hv, _⟩ | ⟨g2, cap2, cur, hv, hb, hg2, hc2, hm2, hs2, ht2⟩
    · simp at hv
    · simp only [Value.slice.injEq, Option.some.injEq, Addr.mk.injEq, and_true, true_and] at hv
      obtain ⟨rfl, rfl⟩ := hv
      have hmin : xs.length = Nat.min xs.length zs.length := (Nat.min_eq_left hle).symm
      have hcur : zs.length ≤ cur.size := by omega
      have := run_copy_row (P := Tryd.prog) w 24 24 3 3 g 0 zs.length cap ⟨g', off, none⟩ xs.length cap' cur 3 (xs.map I64) under_ints hsz hg2
        (by simpa using hmin) (by
          intro j v hj
          simp only [List.getElem?_map, Option.map_eq_some_iff] at hj
          obtain ⟨x, hx1, rfl⟩ := hj
          rw [Addr.add_lit]
          have := (hx j x hx1).2.2
          rw [Nat.mul_one] at this
          exact this) (by simp; omega) (I64_one xs)
      refine ⟨_, by simpa using this, ⟨?_, ?_, .inr ⟨g, cap, _, by rw [List.length_append, List.length_drop, show xs.length + (zs.length - xs.length) = zs.length by omega], hb, setRow_heap w g cur _ 3 _ hg2, ?_, hm2, ?_, ?_⟩⟩, ?_⟩
      · intro k y hk
        by_cases hkl : k < xs.length
        · rw [List.getElem?_append_left hkl] at hk
          exact hZ k y hk
        · rw [List.getElem?_append_right (by omega), List.getElem?_drop] at hk
          exact ho.1 _ y hk
      · simp
      · simp; omega
      · simp; omega
      · have hl : (xs.map I64).length = xs.length := by simp
        rw [List.length_append, List.length_drop, show xs.length + (zs.length - xs.length) = zs.length by omega]
        simp only [List.map_append, List.map_drop, ← ht2, List.drop_take, Nat.mul_one]
        rw [List.take_append, hl, List.take_of_length_le (by simp; omega)]
      · exact ⟨rfl, rfl, rfl, by simp [World.setRow], fun k _ hk => setRow_other w g k _ (fun e => hk (by simp [e]))⟩

/-- A row and three marks behind it. -/
def marked (xs : List Int) : List Int := xs ++ [77, 77, 77]

theorem mark_step (xs R : List Int) (k : Nat) : (xs ++ List.replicate k 77) ++ 77 :: R = (xs ++ List.replicate (k + 1) 77) ++ R := by
  rw [List.replicate_succ']; simp

theorem get_midI {α : Type} {L : List α} {x : α} {R : List α} {k : Nat} (hk : L.length = k) : (L ++ x :: R)[k]? = some x := by subst hk; simp

theorem marked_lo {xs : List Int} {k : Nat} {x : Int} (h : xs[k]? = some x) : (marked xs)[k]? = some x := by
  have hk := (List.getElem?_eq_some_iff.1 h).1
  unfold marked
  rw [List.getElem?_append_left hk, h]

theorem marked_hi {xs : List Int} {k : Nat} (h1 : ¬ k < xs.length) (h2 : k < xs.length + 3) : (marked xs)[k]? = some 77 := by
  unfold marked
  rw [List.getElem?_append_right (by omega)]
  obtain ⟨j, rfl⟩ : ∃ j, k = xs.length + j := ⟨k - xs.length, by omega⟩
  rw [Nat.add_sub_cancel_left]
  match j, (by omega : j < 3) with
  | 0, _ => rfl
  | 1, _ => rfl
  | 2, _ => rfl

theorem cutI {w : World} {base g n cap : Nat} {xs ys : List Int} (h : OwI w base (.slice (some ⟨g, 0, none⟩) n cap) (xs ++ ys)) : Is w (.slice (some ⟨g, 0, none⟩) xs.length cap) xs := by
  obtain ⟨ao, cp, hv, hc, hm, hx⟩ := h.is
  simp only [Value.slice.injEq] at hv
  obtain ⟨rfl, _, rfl⟩ := hv
  rw [List.length_append] at hc
  refine ⟨_, cap, rfl, by omega, hm, fun h0 => ?_⟩
  obtain ⟨g', off, e, hg, hcell⟩ := hx (by rw [List.length_append]; omega)
  simp only [Option.some.injEq, Addr.mk.injEq, and_true] at e
  obtain ⟨rfl, rfl⟩ := e
  exact ⟨g, 0, rfl, hg, fun k x hk => hcell k x (by rw [List.getElem?_append_left (List.getElem?_eq_some_iff.1 hk).1]; exact hk)⟩

theorem grown_stepT {a b c : World} {r r' : Option Nat} (h : a.grownBy b r) (h' : b.grownBy c r') (hr : ∀ g, r' = some g → r = some g ∨ a.heap.size ≤ g) : a.grownBy c r :=
  ⟨h'.os.trans h.os, h'.tape.trans h.tape, h'.output.trans h.output, Nat.le_trans h.size h'.size, fun k hk hne => (h'.block k (Nat.lt_of_lt_of_le hk h.size) (fun e => by
    rcases hr k e.symm with h1 | h1
    · exact hne h1.symm
    · omega)).trans (h.block k hk hne)⟩

/-- Which of n places. -/
def whichN (c : Int) (n : Nat) : Nat := ((if c < 0 then -(c + 1) else c) % (n : Int)).toNat

theorem which_lt (c : Int) (n : Nat) (hn : 0 < n) : whichN c n < n := by
  unfold whichN
  have h1 := Int.emod_nonneg (if c < 0 then -(c + 1) else c) (b := (n : Int)) (by omega)
  have h2 := Int.emod_lt_of_pos (if c < 0 then -(c + 1) else c) (b := (n : Int)) (by omega)
  omega

end Go.Proofs.YtcoaabgaolblfaaDoor

/- The examples of layer 11; what its statements call of their own. -/
namespace Go.Proofs.YtcoaabgaolblfaaDoor
open Go.RowKit Go.Maps Go.BigFrame

theorem ex11_up {i j : Nat} : Up [(2, 1)] i j ↔ i = 2 ∧ j = 1 := by
  constructor
  · intro h
    refine h (fun i j => i = 2 ∧ j = 1) (fun i j hp => ?_) (fun i j k h1 h2 => ?_)
    · unfold PR at hp
      simp only [List.mem_singleton, Prod.mk.injEq] at hp
      omega
    · omega
  · rintro ⟨rfl, rfl⟩
    exact Up.base (by unfold PR; simp)

theorem ex11_no : ∀ i, ¬ Up [(2, 1)] i i := fun i h => by have := ex11_up.1 h; omega

theorem ex11_close : closeE 3 [(2, 1)] = 0 := closeE_ok (by decide) (by decide) (fun x hx => by simp only [List.mem_singleton] at hx; subst hx; decide) ex11_no

theorem ex11_ab : abB [(2, 1)] 2 1 = true := (abB_iff _ _ _).2 ⟨by decide, by decide, ex11_up.2 ⟨rfl, rfl⟩⟩

theorem LG.not2 {ps : List (Int × Int)} (hc : ∀ i, ¬ Up ps i i) {x y : Te} (h : LG (abB ps) x y) : ¬ LG (abB ps) y x := fun h2 => LG.no hc x (LG.trans (abB_tr ps) _ (Nat.le_refl _) h h2)

theorem ex11_1 : grB sumS [(2, 1)] [2, 1, -1, -2] [1, 2, -1, -2] = true := by
  refine (gr_yes (x := .a 2 [.a 1 [.v (-1)], .v (-2)]) (y := .a 1 [.a 2 [.v (-1), .v (-2)]]) (by kernel_rfl) (by kernel_rfl) (by kernel_rfl) (by kernel_rfl)).2 ?_
  refine .up ex11_ab (fun t ht => ?_)
  rw [List.mem_singleton] at ht
  subst ht
  refine LG.lex (p := []) (x := .a 1 [.v (-1)]) (y := .v (-1)) (q := [.v (-2)]) (r := [.v (-2)]) (.part (by simp)) (fun t ht => ?_)
  simp only [List.nil_append, List.mem_cons, List.not_mem_nil, or_false] at ht
  rcases ht with rfl | rfl
  · exact .down (s := .a 1 [.v (-1)]) (by simp) (.part (by simp))
  · exact .part (by simp)

theorem ex11_2 : grB sumS [(2, 1)] [1, 2, -1, -2] [2, 1, -1, -2] = false := by
  have h1 := (gr_yes (sig := sumS) (ps := [(2, 1)]) (s := [2, 1, -1, -2]) (t := [1, 2, -1, -2]) (x := .a 2 [.a 1 [.v (-1)], .v (-2)]) (y := .a 1 [.a 2 [.v (-1), .v (-2)]]) (by kernel_rfl) (by kernel_rfl) (by kernel_rfl) (by kernel_rfl)).1 ex11_1
  have h2 := gr_yes (sig := sumS) (ps := [(2, 1)]) (s := [1, 2, -1, -2]) (t := [2, 1, -1, -2]) (x := .a 1 [.a 2 [.v (-1), .v (-2)]]) (y := .a 2 [.a 1 [.v (-1)], .v (-2)]) (by kernel_rfl) (by kernel_rfl) (by kernel_rfl) (by kernel_rfl)
  cases h : grB sumS [(2, 1)] [1, 2, -1, -2] [2, 1, -1, -2] with
  | false => rfl
  | true => exact absurd (h2.1 h) (LG.not2 ex11_no h1)

theorem ex11_3 : grB sumS [(2, 1)] [2, 1, 0, 0] [2, 0, 1, 0] = true := by
  refine (gr_yes (x := .a 2 [.a 1 [.a 0 []], .a 0 []]) (y := .a 2 [.a 0 [], .a 1 [.a 0 []]]) (by kernel_rfl) (by kernel_rfl) (by kernel_rfl) (by kernel_rfl)).2 ?_
  refine LG.lex (p := []) (x := .a 1 [.a 0 []]) (y := .a 0 []) (q := [.a 0 []]) (r := [.a 1 [.a 0 []]]) (.part (by simp)) (fun t ht => ?_)
  simp only [List.nil_append, List.mem_cons, List.not_mem_nil, or_false] at ht
  rcases ht with rfl | rfl
  · exact .part (by simp)
  · exact .part (by simp)

theorem ex11_4 : grB sumS [(2, 1)] [1, -1] [-2] = false := by
  have h2 := gr_yes (sig := sumS) (ps := [(2, 1)]) (s := [1, -1]) (t := [-2]) (x := .a 1 [.v (-1)]) (y := .v (-2)) (by kernel_rfl) (by kernel_rfl) (by kernel_rfl) (by kernel_rfl)
  cases h : grB sumS [(2, 1)] [1, -1] [-2] with
  | false => rfl
  | true =>
    rcases (LG.step (LG.no ex11_no) (abB_ir ex11_no)).1 (h2.1 h) with ⟨z, hm, h4 | h4⟩ | ⟨g, ts, e, _⟩
    · rw [List.mem_singleton] at hm
      subst hm
      simp at h4
    · rw [List.mem_singleton] at hm
      subst hm
      exact absurd h4 LG.var
    · cases e

theorem ex11_5 : orI sumS [(2, 1)] [1, -1] [2, -1, -1] = -1 := by
  have h1 := gr_yes (sig := sumS) (ps := [(2, 1)]) (s := [2, -1, -1]) (t := [1, -1]) (x := .a 2 [.v (-1), .v (-1)]) (y := .a 1 [.v (-1)]) (by kernel_rfl) (by kernel_rfl) (by kernel_rfl) (by kernel_rfl)
  have h2 := gr_yes (sig := sumS) (ps := [(2, 1)]) (s := [1, -1]) (t := [2, -1, -1]) (x := .a 1 [.v (-1)]) (y := .a 2 [.v (-1), .v (-1)]) (by kernel_rfl) (by kernel_rfl) (by kernel_rfl) (by kernel_rfl)
  have h3 : LG (abB [(2, 1)]) (.a 2 [.v (-1), .v (-1)]) (.a 1 [.v (-1)]) := .up ex11_ab (fun t ht => by rw [List.mem_singleton] at ht; subst ht; exact .part (by simp))
  unfold orI
  rw [if_neg (fun h => LG.not2 ex11_no h3 (h2.1 h)), if_pos (h1.2 h3)]

set_option maxRecDepth 100000 in
theorem three11_any (w : World) : Calls Tryd.prog 11 #[] w fun e w' => ∃ v', e = .returned v' ∧ Sg w' v' sumS ∧ Below w.heap.size w w' := by
  go_enter Tryd.func11, Tryd.ntmps11
  go_wp2
  go_ret
  refine ⟨_, rfl, sg_lit (p := sumS) (by simp) (by decide) ⟨⟨by decide, by decide, by decide, cell_new rfl, cell_new rfl⟩, ⟨by decide, by decide, by decide, cell_new rfl, cell_new rfl⟩, ⟨by decide, by decide, by decide, cell_new rfl, cell_new rfl⟩, trivial⟩, below_alloc _⟩

set_option maxRecDepth 100000 in
theorem l11_1 (w : World) (sv pv : Value) (hs : Sg w sv sumS) (hp : Pc w pv [(2, 1)]) (hT : Tabs w) : Calls Tryd.prog 7 #[sv, pv, .slice (some ⟨w.heap.size, 0, none⟩) 4 4, .slice (some ⟨w.heap.size + 1, 0, none⟩) 4 4] ((w.alloc (Obj.cells #[Value.int IntKind.i64 2, Value.int IntKind.i64 1, Value.int IntKind.i64 (-1), Value.int IntKind.i64 (-2)] 3)).alloc (Obj.cells #[Value.int IntKind.i64 1, Value.int IntKind.i64 2, Value.int IntKind.i64 (-1), Value.int IntKind.i64 (-2)] 3))
    fun e w' => e = .returned (.bool true) ∧ Below w.heap.size w w' := by
  have hB : Below w.heap.size w ((w.alloc (Obj.cells #[Value.int IntKind.i64 2, Value.int IntKind.i64 1, Value.int IntKind.i64 (-1), Value.int IntKind.i64 (-2)] 3)).alloc (Obj.cells #[Value.int IntKind.i64 1, Value.int IntKind.i64 2, Value.int IntKind.i64 (-1), Value.int IntKind.i64 (-2)] 3)) := (below_step (below_alloc _) (below_alloc _))
  obtain ⟨W, hW⟩ : ∃ W, W = ((w.alloc (Obj.cells #[Value.int IntKind.i64 2, Value.int IntKind.i64 1, Value.int IntKind.i64 (-1), Value.int IntKind.i64 (-2)] 3)).alloc (Obj.cells #[Value.int IntKind.i64 1, Value.int IntKind.i64 2, Value.int IntKind.i64 (-1), Value.int IntKind.i64 (-2)] 3)) := ⟨_, rfl⟩
  have hsz : W.heap.size = w.heap.size + 2 := by rw [hW]; simp
  have i1 : Is W (.slice (some ⟨w.heap.size, 0, none⟩) 4 4) [2, 1, -1, -2] := by
    refine is_lit (p := [2, 1, -1, -2]) (by omega) (by decide) ⟨ei (by omega) (by omega) ?_, ei (by omega) (by omega) ?_, ei (by omega) (by omega) ?_, ei (by omega) (by omega) ?_, trivial⟩ <;> (rw [hW]; repeat (first | (refine cell_newg ?_ rfl; simp; done) | refine cell_old ?_))
  have i2 : Is W (.slice (some ⟨w.heap.size + 1, 0, none⟩) 4 4) [1, 2, -1, -2] := by
    refine is_lit (p := [1, 2, -1, -2]) (by omega) (by decide) ⟨ei (by omega) (by omega) ?_, ei (by omega) (by omega) ?_, ei (by omega) (by omega) ?_, ei (by omega) (by omega) ?_, trivial⟩ <;> (rw [hW]; repeat (first | (refine cell_newg ?_ rfl; simp; done) | refine cell_old ?_))
  rw [← hW] at hB ⊢
  refine (lpoGreater_any sv pv _ _ sumS [(2, 1)] [2, 1, -1, -2] [1, 2, -1, -2] W (hs.kp (Kp.of_below hB)) (hp.later hB) i1 i2 (hT.below hB) ex11_no).mono ?_
  rintro e w' ⟨rfl, hb⟩
  exact ⟨by rw [ex11_1], below_step hB hb⟩

set_option maxRecDepth 100000 in
theorem l11_2 (w : World) (sv pv : Value) (hs : Sg w sv sumS) (hp : Pc w pv [(2, 1)]) (hT : Tabs w) : Calls Tryd.prog 7 #[sv, pv, .slice (some ⟨w.heap.size, 0, none⟩) 4 4, .slice (some ⟨w.heap.size + 1, 0, none⟩) 4 4] ((w.alloc (Obj.cells #[Value.int IntKind.i64 1, Value.int IntKind.i64 2, Value.int IntKind.i64 (-1), Value.int IntKind.i64 (-2)] 3)).alloc (Obj.cells #[Value.int IntKind.i64 2, Value.int IntKind.i64 1, Value.int IntKind.i64 (-1), Value.int IntKind.i64 (-2)] 3))
    fun e w' => e = .returned (.bool false) ∧ Below w.heap.size w w' := by
  have hB : Below w.heap.size w ((w.alloc (Obj.cells #[Value.int IntKind.i64 1, Value.int IntKind.i64 2, Value.int IntKind.i64 (-1), Value.int IntKind.i64 (-2)] 3)).alloc (Obj.cells #[Value.int IntKind.i64 2, Value.int IntKind.i64 1, Value.int IntKind.i64 (-1), Value.int IntKind.i64 (-2)] 3)) := (below_step (below_alloc _) (below_alloc _))
  obtain ⟨W, hW⟩ : ∃ W, W = ((w.alloc (Obj.cells #[Value.int IntKind.i64 1, Value.int IntKind.i64 2, Value.int IntKind.i64 (-1), Value.int IntKind.i64 (-2)] 3)).alloc (Obj.cells #[Value.int IntKind.i64 2, Value.int IntKind.i64 1, Value.int IntKind.i64 (-1), Value.int IntKind.i64 (-2)] 3)) := ⟨_, rfl⟩
  have hsz : W.heap.size = w.heap.size + 2 := by rw [hW]; simp
  have i1 : Is W (.slice (some ⟨w.heap.size, 0, none⟩) 4 4) [1, 2, -1, -2] := by
    refine is_lit (p := [1, 2, -1, -2]) (by omega) (by decide) ⟨ei (by omega) (by omega) ?_, ei (by omega) (by omega) ?_, ei (by omega) (by omega) ?_, ei (by omega) (by omega) ?_, trivial⟩ <;> (rw [hW]; repeat (first | (refine cell_newg ?_ rfl; simp; done) | refine cell_old ?_))
  have i2 : Is W (.slice (some ⟨w.heap.size + 1, 0, none⟩) 4 4) [2, 1, -1, -2] := by
    refine is_lit (p := [2, 1, -1, -2]) (by omega) (by decide) ⟨ei (by omega) (by omega) ?_, ei (by omega) (by omega) ?_, ei (by omega) (by omega) ?_, ei (by omega) (by omega) ?_, trivial⟩ <;> (rw [hW]; repeat (first | (refine cell_newg ?_ rfl; simp; done) | refine cell_old ?_))
  rw [← hW] at hB ⊢
  refine (lpoGreater_any sv pv _ _ sumS [(2, 1)] [1, 2, -1, -2] [2, 1, -1, -2] W (hs.kp (Kp.of_below hB)) (hp.later hB) i1 i2 (hT.below hB) ex11_no).mono ?_
  rintro e w' ⟨rfl, hb⟩
  exact ⟨by rw [ex11_2], below_step hB hb⟩

set_option maxRecDepth 100000 in
theorem l11_3 (w : World) (sv pv : Value) (hs : Sg w sv sumS) (hp : Pc w pv [(2, 1)]) (hT : Tabs w) : Calls Tryd.prog 7 #[sv, pv, .slice (some ⟨w.heap.size, 0, none⟩) 4 4, .slice (some ⟨w.heap.size + 1, 0, none⟩) 4 4] ((w.alloc (Obj.cells #[Value.int IntKind.i64 2, Value.int IntKind.i64 1, Value.int IntKind.i64 0, Value.int IntKind.i64 0] 3)).alloc (Obj.cells #[Value.int IntKind.i64 2, Value.int IntKind.i64 0, Value.int IntKind.i64 1, Value.int IntKind.i64 0] 3))
    fun e w' => e = .returned (.bool true) ∧ Below w.heap.size w w' := by
  have hB : Below w.heap.size w ((w.alloc (Obj.cells #[Value.int IntKind.i64 2, Value.int IntKind.i64 1, Value.int IntKind.i64 0, Value.int IntKind.i64 0] 3)).alloc (Obj.cells #[Value.int IntKind.i64 2, Value.int IntKind.i64 0, Value.int IntKind.i64 1, Value.int IntKind.i64 0] 3)) := (below_step (below_alloc _) (below_alloc _))
  obtain ⟨W, hW⟩ : ∃ W, W = ((w.alloc (Obj.cells #[Value.int IntKind.i64 2, Value.int IntKind.i64 1, Value.int IntKind.i64 0, Value.int IntKind.i64 0] 3)).alloc (Obj.cells #[Value.int IntKind.i64 2, Value.int IntKind.i64 0, Value.int IntKind.i64 1, Value.int IntKind.i64 0] 3)) := ⟨_, rfl⟩
  have hsz : W.heap.size = w.heap.size + 2 := by rw [hW]; simp
  have i1 : Is W (.slice (some ⟨w.heap.size, 0, none⟩) 4 4) [2, 1, 0, 0] := by
    refine is_lit (p := [2, 1, 0, 0]) (by omega) (by decide) ⟨ei (by omega) (by omega) ?_, ei (by omega) (by omega) ?_, ei (by omega) (by omega) ?_, ei (by omega) (by omega) ?_, trivial⟩ <;> (rw [hW]; repeat (first | (refine cell_newg ?_ rfl; simp; done) | refine cell_old ?_))
  have i2 : Is W (.slice (some ⟨w.heap.size + 1, 0, none⟩) 4 4) [2, 0, 1, 0] := by
    refine is_lit (p := [2, 0, 1, 0]) (by omega) (by decide) ⟨ei (by omega) (by omega) ?_, ei (by omega) (by omega) ?_, ei (by omega) (by omega) ?_, ei (by omega) (by omega) ?_, trivial⟩ <;> (rw [hW]; repeat (first | (refine cell_newg ?_ rfl; simp; done) | refine cell_old ?_))
  rw [← hW] at hB ⊢
  refine (lpoGreater_any sv pv _ _ sumS [(2, 1)] [2, 1, 0, 0] [2, 0, 1, 0] W (hs.kp (Kp.of_below hB)) (hp.later hB) i1 i2 (hT.below hB) ex11_no).mono ?_
  rintro e w' ⟨rfl, hb⟩
  exact ⟨by rw [ex11_3], below_step hB hb⟩

set_option maxRecDepth 100000 in
theorem l11_4 (w : World) (sv pv : Value) (hs : Sg w sv sumS) (hp : Pc w pv [(2, 1)]) (hT : Tabs w) : Calls Tryd.prog 7 #[sv, pv, .slice (some ⟨w.heap.size, 0, none⟩) 2 2, .slice (some ⟨w.heap.size + 1, 0, none⟩) 1 1] ((w.alloc (Obj.cells #[Value.int IntKind.i64 1, Value.int IntKind.i64 (-1)] 3)).alloc (Obj.cells #[Value.int IntKind.i64 (-2)] 3))
    fun e w' => e = .returned (.bool false) ∧ Below w.heap.size w w' := by
  have hB : Below w.heap.size w ((w.alloc (Obj.cells #[Value.int IntKind.i64 1, Value.int IntKind.i64 (-1)] 3)).alloc (Obj.cells #[Value.int IntKind.i64 (-2)] 3)) := (below_step (below_alloc _) (below_alloc _))
  obtain ⟨W, hW⟩ : ∃ W, W = ((w.alloc (Obj.cells #[Value.int IntKind.i64 1, Value.int IntKind.i64 (-1)] 3)).alloc (Obj.cells #[Value.int IntKind.i64 (-2)] 3)) := ⟨_, rfl⟩
  have hsz : W.heap.size = w.heap.size + 2 := by rw [hW]; simp
  have i1 : Is W (.slice (some ⟨w.heap.size, 0, none⟩) 2 2) [1, -1] := by
    refine is_lit (p := [1, -1]) (by omega) (by decide) ⟨ei (by omega) (by omega) ?_, ei (by omega) (by omega) ?_, trivial⟩ <;> (rw [hW]; repeat (first | (refine cell_newg ?_ rfl; simp; done) | refine cell_old ?_))
  have i2 : Is W (.slice (some ⟨w.heap.size + 1, 0, none⟩) 1 1) [-2] := by
    refine is_lit (p := [-2]) (by omega) (by decide) ⟨ei (by omega) (by omega) ?_, trivial⟩ <;> (rw [hW]; repeat (first | (refine cell_newg ?_ rfl; simp; done) | refine cell_old ?_))
  rw [← hW] at hB ⊢
  refine (lpoGreater_any sv pv _ _ sumS [(2, 1)] [1, -1] [-2] W (hs.kp (Kp.of_below hB)) (hp.later hB) i1 i2 (hT.below hB) ex11_no).mono ?_
  rintro e w' ⟨rfl, hb⟩
  exact ⟨by rw [ex11_4], below_step hB hb⟩

set_option maxRecDepth 100000 in
theorem l11_5 (w : World) (sv pv : Value) (hs : Sg w sv sumS) (hp : Pc w pv [(2, 1)]) (hT : Tabs w) : Calls Tryd.prog 9 #[sv, pv, .agg #[.slice (some ⟨w.heap.size, 0, none⟩) 2 2, .slice (some ⟨w.heap.size + 1, 0, none⟩) 3 3]] ((w.alloc (Obj.cells #[Value.int IntKind.i64 1, Value.int IntKind.i64 (-1)] 3)).alloc (Obj.cells #[Value.int IntKind.i64 2, Value.int IntKind.i64 (-1), Value.int IntKind.i64 (-1)] 3))
    fun e w' => e = .returned (.int .i64 (-1)) ∧ Below w.heap.size w w' := by
  have hB : Below w.heap.size w ((w.alloc (Obj.cells #[Value.int IntKind.i64 1, Value.int IntKind.i64 (-1)] 3)).alloc (Obj.cells #[Value.int IntKind.i64 2, Value.int IntKind.i64 (-1), Value.int IntKind.i64 (-1)] 3)) := (below_step (below_alloc _) (below_alloc _))
  obtain ⟨W, hW⟩ : ∃ W, W = ((w.alloc (Obj.cells #[Value.int IntKind.i64 1, Value.int IntKind.i64 (-1)] 3)).alloc (Obj.cells #[Value.int IntKind.i64 2, Value.int IntKind.i64 (-1), Value.int IntKind.i64 (-1)] 3)) := ⟨_, rfl⟩
  have hsz : W.heap.size = w.heap.size + 2 := by rw [hW]; simp
  have i1 : Is W (.slice (some ⟨w.heap.size, 0, none⟩) 2 2) [1, -1] := by
    refine is_lit (p := [1, -1]) (by omega) (by decide) ⟨ei (by omega) (by omega) ?_, ei (by omega) (by omega) ?_, trivial⟩ <;> (rw [hW]; repeat (first | (refine cell_newg ?_ rfl; simp; done) | refine cell_old ?_))
  have i2 : Is W (.slice (some ⟨w.heap.size + 1, 0, none⟩) 3 3) [2, -1, -1] := by
    refine is_lit (p := [2, -1, -1]) (by omega) (by decide) ⟨ei (by omega) (by omega) ?_, ei (by omega) (by omega) ?_, ei (by omega) (by omega) ?_, trivial⟩ <;> (rw [hW]; repeat (first | (refine cell_newg ?_ rfl; simp; done) | refine cell_old ?_))
  rw [← hW] at hB ⊢
  refine (lpoOrient_any sv pv _ _ sumS [(2, 1)] [1, -1] [2, -1, -1] W (hs.kp (Kp.of_below hB)) (hp.later hB) i1 i2 (hT.below hB) ex11_no).mono ?_
  rintro e w' ⟨rfl, hb⟩
  exact ⟨by rw [ex11_5], below_step hB hb⟩

set_option maxRecDepth 100000 in
set_option maxHeartbeats 1600000 in
theorem shown11_any (w : World) (hT : Tabs w) : Calls Tryd.prog 5 #[] w fun e w' => e = .returned (.bool true) ∧ Below w.heap.size w w' := by
  have HT := hid hT
  clear hT
  go_enter Tryd.func5, Tryd.ntmps5
  go_wp2_with fail
  refine (three11_any w).mono ?_
  rintro e w1 ⟨sv, rfl, hs, hb⟩
  have HS := hid hs
  have HB := hid hb
  clear hs hb
  have HBa := hid (below_step HB.out (below_alloc (w := w1) (.cells #[.int .i64 2, .int .i64 1] 43)))
  have HSa := hid (HS.out.kp (Kp.of_below (below_alloc (w := w1) (.cells #[.int .i64 2, .int .i64 1] 43))))
  have HPr := hid (prs_one w1 2 1 (by decide) (by decide))
  go_wp2_with fail
  refine (close_any 3 _ [(2, 1)] _ HPr.out).mono ?_
  intro e w2 hc
  obtain ⟨hb2, gp, rfl, hp⟩ := hc.ok ex11_close
  have HP := hid hp
  have HB2 := hid (below_step HBa.out hb2)
  have HS2 := hid (HSa.out.kp (Kp.of_below hb2))
  clear hc hb2 hp HBa HSa HPr HS HB
  go_wp2_with fail
  refine (l11_1 w2 sv _ HS2.out HP.out (HT.out.below HB2.out)).mono ?_
  rintro e w3 ⟨rfl, hb⟩
  have HBn := hid (below_step HB2.out hb)
  have HSn := hid (HS2.out.kp (Kp.of_below hb))
  have HPn := hid (HP.out.later hb)
  clear hb HB2 HS2 HP
  have HB2 := HBn
  have HS2 := HSn
  have HP := HPn
  clear HBn HSn HPn
  go_wp2_with fail
  refine (l11_2 w3 sv _ HS2.out HP.out (HT.out.below HB2.out)).mono ?_
  rintro e w4 ⟨rfl, hb⟩
  have HBn := hid (below_step HB2.out hb)
  have HSn := hid (HS2.out.kp (Kp.of_below hb))
  have HPn := hid (HP.out.later hb)
  clear hb HB2 HS2 HP
  have HB2 := HBn
  have HS2 := HSn
  have HP := HPn
  clear HBn HSn HPn
  go_wp2_with fail
  refine (l11_3 w4 sv _ HS2.out HP.out (HT.out.below HB2.out)).mono ?_
  rintro e w5 ⟨rfl, hb⟩
  have HBn := hid (below_step HB2.out hb)
  have HSn := hid (HS2.out.kp (Kp.of_below hb))
  have HPn := hid (HP.out.later hb)
  clear hb HB2 HS2 HP
  have HB2 := HBn
  have HS2 := HSn
  have HP := HPn
  clear HBn HSn HPn
  go_wp2_with fail
  refine (l11_4 w5 sv _ HS2.out HP.out (HT.out.below HB2.out)).mono ?_
  rintro e w6 ⟨rfl, hb⟩
  have HBn := hid (below_step HB2.out hb)
  have HSn := hid (HS2.out.kp (Kp.of_below hb))
  have HPn := hid (HP.out.later hb)
  clear hb HB2 HS2 HP
  have HB2 := HBn
  have HS2 := HSn
  have HP := HPn
  clear HBn HSn HPn
  go_wp2_with fail
  refine (l11_5 w6 sv _ HS2.out HP.out (HT.out.below HB2.out)).mono ?_
  rintro e w7 ⟨rfl, hb⟩
  have HBn := hid (below_step HB2.out hb)
  have HSn := hid (HS2.out.kp (Kp.of_below hb))
  have HPn := hid (HP.out.later hb)
  clear hb HB2 HS2 HP
  have HB2 := HBn
  have HS2 := HSn
  have HP := HPn
  clear HBn HSn HPn
  go_wp2
  go_ret
  exact ⟨rfl, HB2.out⟩

/-- What both answers. -/
def BothO (n : Int) (ps : List (Int × Int)) (w : World) (e : Ending) (w' : World) : Prop :=
  Below w.heap.size w w' ∧ ((closeE n ps = 0 ∧ ∃ g h, e = .returned (.tuple #[.pointer (some ⟨g, 0, none⟩), .pointer (some ⟨h, 0, none⟩), .bool true]) ∧ Pc w' (.pointer (some ⟨g, 0, none⟩)) ps ∧ Rc w' (.pointer (some ⟨h, 0, none⟩)) ps) ∨ (closeE n ps ≠ 0 ∧ e = .returned (.tuple #[.pointer none, .pointer none, .bool true])))

set_option maxRecDepth 100000 in
set_option maxHeartbeats 1600000 in
theorem both11_any (sv v : Value) (sig : List Sy) (ps : List (Int × Int)) (w : World) (hs : Sg w sv sig) (hp : Prs w v ps) :
    Calls Tryd.prog 6 #[sv, v] w (BothO sig.length ps w) := by
  obtain ⟨so, sc, rfl, hs1, hs2, _⟩ := Row.flat hs
  unfold maxLen at hs2
  have HP := hid hp
  clear hs hp
  go_enter Tryd.func6, Tryd.ntmps6
  go_wp2_with fail
  refine (close_any sig.length v ps w HP.out).mono ?_
  intro e w1 hc
  have HB1 := hid hc.1
  by_cases h0 : closeE sig.length ps = 0
  · obtain ⟨_, g, rfl, hp1⟩ := hc.ok h0
    have H0 := hid h0
    have HP1 := hid hp1
    clear hc hp1 h0
    go_wp2_with fail
    refine (refClose_any sig.length v ps w1 (HP.out.later HB1.out)).mono ?_
    intro e w2 hc2
    obtain ⟨hb2, g2, rfl, hq⟩ := hc2.ok H0.out
    have HB2 := hid (below_step HB1.out hb2)
    have HP2 := hid (HP1.out.later hb2)
    have HQ2 := hid hq
    clear hc2 hb2 hq
    go_wp2
    go_ret3
    exact ⟨HB2.out, .inl ⟨H0.out, g, g2, rfl, HP2.out, HQ2.out⟩⟩
  · obtain ⟨_, rfl⟩ := hc.err rfl h0
    have H0 := hid h0
    have HR := hid (fun (e : Ending) (w' : World) (h : RefO sig.length ps w1 e w') => h.err rfl h0)
    clear hc
    obtain ⟨E, hE⟩ : ∃ E, E = closeE sig.length ps := ⟨_, rfl⟩
    rw [← hE] at HR h0 ⊢
    clear hE
    have hEb : (E == 0) = false := by simpa using h0
    have hEn : (E != 0) = true := by simpa using h0
    go_wp2_with fail
    refine (refClose_any sig.length v ps w1 (HP.out.later HB1.out)).mono ?_
    intro e w2 hc2
    obtain ⟨hb2, rfl⟩ := HR.out e w2 hc2
    have HB2 := hid (below_step HB1.out hb2)
    clear hc2 hb2
    go_wp2
    go_ret3
    exact ⟨HB2.out, .inr ⟨H0.out, rfl⟩⟩

end Go.Proofs.YtcoaabgaolblfaaDoor
