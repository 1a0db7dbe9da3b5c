/- Texts of the proof, one behind the other. -/
import Derived.Test.YthjghdpiokpnfabDoorOwn12
import Derived.Test.YthjghdpiokpnfabDoorOwn4
import Derived.Test.YthjghdpiokpnfabDoorOwn10
import Derived.Test.YthjghdpiokpnfabDoorOwn11
import Derived.Test.YthjghdpiokpnfabDoorOwn3
import Derived.Test.YthjghdpiokpnfabDoorOwn8
import Derived.Deep.LoopGhost
/- What the law file's helpers do: same, lent, kept, spoil, three, which. -/
namespace Go.Proofs.YthjghdpiokpnfabDoor
open Go.RowKit Go.Maps Go.BigFrame

theorem join_two (ty : TypeId) {w : World} {base : Nat} {x u : Value} {xs es : List Int} (ho : OwI w base x xs) (hs : Is w u es) (hb : base ≤ w.heap.size) (hl : (xs.length + es.length) * 8 ≤ 140737488355328) :
    ∃ v' w', (Builtin.append_ #[24, 24] ty #[x, u]).run Tryd.prog w = .ok v' w' ∧ OwI w' base v' (xs ++ es) ∧ w.grownBy w' x.ownBlock ∧ (v'.ownBlock = x.ownBlock ∨ v'.ownBlock = some w.heap.size) := by
  obtain ⟨i0, hi, hz0, hz1, hz2⟩ := info_parts info_int
  have hZ : ZI es := fun k x hk => by
    obtain ⟨ao, cap, rfl, _, _, hx⟩ := Row.flat hs
    obtain ⟨_, _, y, _, hy, h1, h2, _⟩ := hx k (List.getElem?_eq_some_iff.1 hk).1
    rw [hk] at hy
    cases hy
    exact ⟨h1, h2⟩
  have hZ2 : ZI (xs ++ es) := fun k y hk => by
    by_cases hkl : k < xs.length
    · rw [List.getElem?_append_left hkl] at hk
      exact ho.1 k y hk
    · rw [List.getElem?_append_right (by omega)] at hk
      exact hZ _ y hk
  obtain ⟨ao, cap, rfl, hc, hm, hx⟩ := hs
  by_cases h0 : es.length = 0
  · obtain rfl : es = [] := List.eq_nil_of_length_eq_zero h0
    obtain ⟨bo, bc, rfl, hbc, _⟩ := ho.shape
    refine ⟨_, w, run_append_nothing w 24 24 ty 3 i0 under_ints hi _ xs.length bc hbc _ ?_, by rw [List.append_nil]; exact ho, World.grownBy.refl _ _, .inl rfl⟩
    cases ao with
    | none => exact Src.ofNil w under_ints _
    | some a => exact Src.ofSlice w under_ints a 0 _ [] (by simp) (fun j u hj => (by simp at hj)) (fun u hu => (by simp at hu))
  · obtain ⟨g', off, rfl, hg, hcell⟩ := hx (by omega)
    obtain ⟨v', w', hr, h2, h3, _, h5⟩ := run_append_own_at (P := Tryd.prog) w base 24 ty 3 i0 _ 1 8 under_ints hi hz0 hz1 hz2 rfl (by decide) _ xs.length (xs.map I64) ho.2 ⟨g', off, none⟩ es.length cap (es.map I64) (by simp) (fun j u hj => by
      rw [List.getElem?_map] at hj
      cases hk : es[j]? with
      | none => rw [hk] at hj; simp at hj
      | some x =>
        rw [hk] at hj
        simp at hj
        subst hj
        rw [Addr.add_lit]
        have := (hcell j x hk).2.2
        rw [Nat.mul_one] at this
        exact this) (fun u hu => by obtain ⟨x, _, rfl⟩ := List.mem_map.1 hu; rfl) (by unfold maxLen; omega) (by omega) hb
    refine ⟨v', w', hr, ⟨hZ2, ?_⟩, h3, h5⟩
    rw [List.length_append, List.map_append]
    exact h2

theorem I64_one (xs : List Int) : ∀ u ∈ xs.map I64, u.oneCell' = true := fun u hu => by obtain ⟨x, _, rfl⟩ := List.mem_map.1 hu; rfl

theorem run_copy_ints {w : World} {base g n cap cap' : Nat} {ao : Option Addr} {zs xs : List Int} (ho : OwI w base (.slice (some ⟨g, 0, none⟩) n cap) zs) (hn : n = zs.length)
    (hs : Is w (.slice ao xs.length cap') xs) (hle : xs.length ≤ n) :
    ∃ w', (Builtin.copy_ #[24, 24] 3 #[.slice (some ⟨g, 0, none⟩) n cap, .slice ao xs.length cap']).run Tryd.prog w = .ok (goInt xs.length) w' ∧
      OwI w' base (.slice (some ⟨g, 0, none⟩) n cap) (xs ++ zs.drop xs.length) ∧ w.grownBy w' (some g) := by
  subst hn
  have hsz : (Tryd.prog.info? 3).map (·.size) = some 1 := by kernel_rfl
  by_cases h0 : xs.length = 0
  · obtain rfl : xs = [] := List.eq_nil_of_length_eq_zero h0
    have := run_copy_none (P := Tryd.prog) w 24 24 3 3 (some ⟨g, 0, none⟩) ao zs.length cap 0 cap' under_ints hsz (by simp)
    exact ⟨w, this, by simpa using ho, World.grownBy.refl _ _⟩
  · have hZ := hs.range
    obtain ⟨ao', c', hv, hc, hm, hx⟩ := hs
    simp only [Value.slice.injEq] at hv
    obtain ⟨rfl, _, rfl⟩ := hv
    obtain ⟨g', off, rfl, hg, hx⟩ := hx (by omega)
    rcases ho.2.2 with ⟨hv, _⟩ | ⟨g2, cap2, cur, hv, hb, hg2, hc2, hm2, hs2, ht2⟩
    · simp at hv
    · simp only [Value.slice.injEq, Option.some.injEq, Addr.mk.injEq, and_true, true_and] at hv
      obtain ⟨rfl, rfl⟩ := hv
      have hmin : xs.length = Nat.min xs.length zs.length := (Nat.min_eq_left hle).symm
      have hcur : zs.length ≤ cur.size := by omega
      have := run_copy_row (P := Tryd.prog) w 24 24 3 3 g 0 zs.length cap ⟨g', off, none⟩ xs.length cap' cur 3 (xs.map I64) under_ints hsz hg2
        (by simpa using hmin) (by
          intro j v hj
          simp only [List.getElem?_map, Option.map_eq_some_iff] at hj
          obtain ⟨x, hx1, rfl⟩ := hj
          rw [Addr.add_lit]
          have := (hx j x hx1).2.2
          rw [Nat.mul_one] at this
          exact this) (by simp; omega) (I64_one xs)
      refine ⟨_, by simpa using this, ⟨?_, ?_, .inr ⟨g, cap, _, by rw [List.length_append, List.length_drop, show xs.length + (zs.length - xs.length) = zs.length by omega], hb, setRow_heap w g cur _ 3 _ hg2, ?_, hm2, ?_, ?_⟩⟩, ?_⟩
      · intro k y hk
        by_cases hkl : k < xs.length
        · rw [List.getElem?_append_left hkl] at hk
          exact hZ k y hk
        · rw [List.getElem?_append_right (by omega), List.getElem?_drop] at hk
          exact ho.1 _ y hk
      · simp
      · simp; omega
      · simp; omega
      · have hl : (xs.map I64).length = xs.length := by simp
        rw [List.length_append, List.length_drop, show xs.length + (zs.length - xs.length) = zs.length by omega]
        simp only [List.map_append, List.map_drop, ← ht2, List.drop_take, Nat.mul_one]
        rw [List.take_append, hl, List.take_of_length_le (by simp; omega)]
      · exact ⟨rfl, rfl, rfl, by simp [World.setRow], fun k _ hk => setRow_other w g k _ (fun e => hk (by simp [e]))⟩

/-- A row and three marks behind it. -/
def marked (xs : List Int) : List Int := xs ++ [77, 77, 77]

theorem mark_step (xs R : List Int) (k : Nat) : (xs ++ List.replicate k 77) ++ 77 :: R = (xs ++ List.replicate (k + 1) 77) ++ R := by
  rw [List.replicate_succ']; simp

theorem get_midI {α : Type} {L : List α} {x : α} {R : List α} {k : Nat} (hk : L.length = k) : (L ++ x :: R)[k]? = some x := by subst hk; simp

theorem marked_lo {xs : List Int} {k : Nat} {x : Int} (h : xs[k]? = some x) : (marked xs)[k]? = some x := by
  have hk := (List.getElem?_eq_some_iff.1 h).1
  unfold marked
  rw [List.getElem?_append_left hk, h]

theorem marked_hi {xs : List Int} {k : Nat} (h1 : ¬ k < xs.length) (h2 : k < xs.length + 3) : (marked xs)[k]? = some 77 := by
  unfold marked
  rw [List.getElem?_append_right (by omega)]
  obtain ⟨j, rfl⟩ : ∃ j, k = xs.length + j := ⟨k - xs.length, by omega⟩
  rw [Nat.add_sub_cancel_left]
  match j, (by omega : j < 3) with
  | 0, _ => rfl
  | 1, _ => rfl
  | 2, _ => rfl

theorem cutI {w : World} {base g n cap : Nat} {xs ys : List Int} (h : OwI w base (.slice (some ⟨g, 0, none⟩) n cap) (xs ++ ys)) : Is w (.slice (some ⟨g, 0, none⟩) xs.length cap) xs := by
  obtain ⟨ao, cp, hv, hc, hm, hx⟩ := h.is
  simp only [Value.slice.injEq] at hv
  obtain ⟨rfl, _, rfl⟩ := hv
  rw [List.length_append] at hc
  refine ⟨_, cap, rfl, by omega, hm, fun h0 => ?_⟩
  obtain ⟨g', off, e, hg, hcell⟩ := hx (by rw [List.length_append]; omega)
  simp only [Option.some.injEq, Addr.mk.injEq, and_true] at e
  obtain ⟨rfl, rfl⟩ := e
  exact ⟨g, 0, rfl, hg, fun k x hk => hcell k x (by rw [List.getElem?_append_left (List.getElem?_eq_some_iff.1 hk).1]; exact hk)⟩

theorem grown_stepT {a b c : World} {r r' : Option Nat} (h : a.grownBy b r) (h' : b.grownBy c r') (hr : ∀ g, r' = some g → r = some g ∨ a.heap.size ≤ g) : a.grownBy c r :=
  ⟨h'.os.trans h.os, h'.tape.trans h.tape, h'.output.trans h.output, Nat.le_trans h.size h'.size, fun k hk hne => (h'.block k (Nat.lt_of_lt_of_le hk h.size) (fun e => by
    rcases hr k e.symm with h1 | h1
    · exact hne h1.symm
    · omega)).trans (h.block k hk hne)⟩

/-- Which of n places. -/
def whichN (c : Int) (n : Nat) : Nat := ((if c < 0 then -(c + 1) else c) % (n : Int)).toNat

theorem which_lt (c : Int) (n : Nat) (hn : 0 < n) : whichN c n < n := by
  unfold whichN
  have h1 := Int.emod_nonneg (if c < 0 then -(c + 1) else c) (b := (n : Int)) (by omega)
  have h2 := Int.emod_lt_of_pos (if c < 0 then -(c + 1) else c) (b := (n : Int)) (by omega)
  omega

end Go.Proofs.YthjghdpiokpnfabDoor

/- The examples of layer 11; what its statements call of their own. -/
namespace Go.Proofs.YthjghdpiokpnfabDoor
open Go.RowKit Go.Maps Go.BigFrame

theorem ex11_up {i j : Nat} : Up [(2, 1)] i j ↔ i = 2 ∧ j = 1 := by
  constructor
  · intro h
    refine h (fun i j => i = 2 ∧ j = 1) (fun i j hp => ?_) (fun i j k h1 h2 => ?_)
    · unfold PR at hp
      simp only [List.mem_singleton, Prod.mk.injEq] at hp
      omega
    · omega
  · rintro ⟨rfl, rfl⟩
    exact Up.base (by unfold PR; simp)

theorem ex11_no : ∀ i, ¬ Up [(2, 1)] i i := fun i h => by have := ex11_up.1 h; omega

theorem ex11_close : closeE 3 [(2, 1)] = 0 := closeE_ok (by decide) (by decide) (fun x hx => by simp only [List.mem_singleton] at hx; subst hx; decide) ex11_no

theorem ex11_ab : abB [(2, 1)] 2 1 = true := (abB_iff _ _ _).2 ⟨by decide, by decide, ex11_up.2 ⟨rfl, rfl⟩⟩

theorem LG.not2 {ps : List (Int × Int)} (hc : ∀ i, ¬ Up ps i i) {x y : Te} (h : LG (abB ps) x y) : ¬ LG (abB ps) y x := fun h2 => LG.no hc x (LG.trans (abB_tr ps) _ (Nat.le_refl _) h h2)

theorem ex11_1 : grB sumS [(2, 1)] [2, 1, -1, -2] [1, 2, -1, -2] = true := by
  refine (gr_yes (x := .a 2 [.a 1 [.v (-1)], .v (-2)]) (y := .a 1 [.a 2 [.v (-1), .v (-2)]]) (by kernel_rfl) (by kernel_rfl) (by kernel_rfl) (by kernel_rfl)).2 ?_
  refine .up ex11_ab (fun t ht => ?_)
  rw [List.mem_singleton] at ht
  subst ht
  refine LG.lex (p := []) (x := .a 1 [.v (-1)]) (y := .v (-1)) (q := [.v (-2)]) (r := [.v (-2)]) (.part (by simp)) (fun t ht => ?_)
  simp only [List.nil_append, List.mem_cons, List.not_mem_nil, or_false] at ht
  rcases ht with rfl | rfl
  · exact .down (s := .a 1 [.v (-1)]) (by simp) (.part (by simp))
  · exact .part (by simp)

theorem ex11_2 : grB sumS [(2, 1)] [1, 2, -1, -2] [2, 1, -1, -2] = false := by
  have h1 := (gr_yes (sig := sumS) (ps := [(2, 1)]) (s := [2, 1, -1, -2]) (t := [1, 2, -1, -2]) (x := .a 2 [.a 1 [.v (-1)], .v (-2)]) (y := .a 1 [.a 2 [.v (-1), .v (-2)]]) (by kernel_rfl) (by kernel_rfl) (by kernel_rfl) (by kernel_rfl)).1 ex11_1
  have h2 := gr_yes (sig := sumS) (ps := [(2, 1)]) (s := [1, 2, -1, -2]) (t := [2, 1, -1, -2]) (x := .a 1 [.a 2 [.v (-1), .v (-2)]]) (y := .a 2 [.a 1 [.v (-1)], .v (-2)]) (by kernel_rfl) (by kernel_rfl) (by kernel_rfl) (by kernel_rfl)
  cases h : grB sumS [(2, 1)] [1, 2, -1, -2] [2, 1, -1, -2] with
  | false => rfl
  | true => exact absurd (h2.1 h) (LG.not2 ex11_no h1)

theorem ex11_3 : grB sumS [(2, 1)] [2, 1, 0, 0] [2, 0, 1, 0] = true := by
  refine (gr_yes (x := .a 2 [.a 1 [.a 0 []], .a 0 []]) (y := .a 2 [.a 0 [], .a 1 [.a 0 []]]) (by kernel_rfl) (by kernel_rfl) (by kernel_rfl) (by kernel_rfl)).2 ?_
  refine LG.lex (p := []) (x := .a 1 [.a 0 []]) (y := .a 0 []) (q := [.a 0 []]) (r := [.a 1 [.a 0 []]]) (.part (by simp)) (fun t ht => ?_)
  simp only [List.nil_append, List.mem_cons, List.not_mem_nil, or_false] at ht
  rcases ht with rfl | rfl
  · exact .part (by simp)
  · exact .part (by simp)

theorem ex11_4 : grB sumS [(2, 1)] [1, -1] [-2] = false := by
  have h2 := gr_yes (sig := sumS) (ps := [(2, 1)]) (s := [1, -1]) (t := [-2]) (x := .a 1 [.v (-1)]) (y := .v (-2)) (by kernel_rfl) (by kernel_rfl) (by kernel_rfl) (by kernel_rfl)
  cases h : grB sumS [(2, 1)] [1, -1] [-2] with
  | false => rfl
  | true =>
    rcases (LG.step (LG.no ex11_no) (abB_ir ex11_no)).1 (h2.1 h) with ⟨z, hm, h4 | h4⟩ | ⟨g, ts, e, _⟩
    · rw [List.mem_singleton] at hm
      subst hm
      simp at h4
    · rw [List.mem_singleton] at hm
      subst hm
      exact absurd h4 LG.var
    · cases e

theorem ex11_5 : orI sumS [(2, 1)] [1, -1] [2, -1, -1] = -1 := by
  have h1 := gr_yes (sig := sumS) (ps := [(2, 1)]) (s := [2, -1, -1]) (t := [1, -1]) (x := .a 2 [.v (-1), .v (-1)]) (y := .a 1 [.v (-1)]) (by kernel_rfl) (by kernel_rfl) (by kernel_rfl) (by kernel_rfl)
  have h2 := gr_yes (sig := sumS) (ps := [(2, 1)]) (s := [1, -1]) (t := [2, -1, -1]) (x := .a 1 [.v (-1)]) (y := .a 2 [.v (-1), .v (-1)]) (by kernel_rfl) (by kernel_rfl) (by kernel_rfl) (by kernel_rfl)
  have h3 : LG (abB [(2, 1)]) (.a 2 [.v (-1), .v (-1)]) (.a 1 [.v (-1)]) := .up ex11_ab (fun t ht => by rw [List.mem_singleton] at ht; subst ht; exact .part (by simp))
  unfold orI
  rw [if_neg (fun h => LG.not2 ex11_no h3 (h2.1 h)), if_pos (h1.2 h3)]

set_option maxRecDepth 100000 in
theorem three11_any (w : World) : Calls Tryd.prog 10 #[] w fun e w' => ∃ v', e = .returned v' ∧ Sg w' v' sumS ∧ Below w.heap.size w w' := by
  go_enter Tryd.func10, Tryd.ntmps10
  go_wp2
  go_ret
  refine ⟨_, rfl, sg_lit (p := sumS) (by simp) (by decide) ⟨⟨by decide, by decide, by decide, cell_new rfl, cell_new rfl⟩, ⟨by decide, by decide, by decide, cell_new rfl, cell_new rfl⟩, ⟨by decide, by decide, by decide, cell_new rfl, cell_new rfl⟩, trivial⟩, below_alloc _⟩

set_option maxRecDepth 100000 in
theorem l11_1 (w : World) (sv pv : Value) (hs : Sg w sv sumS) (hp : Pc w pv [(2, 1)]) (hT : Tabs w) : Calls Tryd.prog 8 #[sv, pv, .slice (some ⟨w.heap.size, 0, none⟩) 4 4, .slice (some ⟨w.heap.size + 1, 0, none⟩) 4 4] ((w.alloc (Obj.cells #[Value.int IntKind.i64 2, Value.int IntKind.i64 1, Value.int IntKind.i64 (-1), Value.int IntKind.i64 (-2)] 3)).alloc (Obj.cells #[Value.int IntKind.i64 1, Value.int IntKind.i64 2, Value.int IntKind.i64 (-1), Value.int IntKind.i64 (-2)] 3))
    fun e w' => e = .returned (.bool true) ∧ Below w.heap.size w w' := by
  have hB : Below w.heap.size w ((w.alloc (Obj.cells #[Value.int IntKind.i64 2, Value.int IntKind.i64 1, Value.int IntKind.i64 (-1), Value.int IntKind.i64 (-2)] 3)).alloc (Obj.cells #[Value.int IntKind.i64 1, Value.int IntKind.i64 2, Value.int IntKind.i64 (-1), Value.int IntKind.i64 (-2)] 3)) := (below_step (below_alloc _) (below_alloc _))
  obtain ⟨W, hW⟩ : ∃ W, W = ((w.alloc (Obj.cells #[Value.int IntKind.i64 2, Value.int IntKind.i64 1, Value.int IntKind.i64 (-1), Value.int IntKind.i64 (-2)] 3)).alloc (Obj.cells #[Value.int IntKind.i64 1, Value.int IntKind.i64 2, Value.int IntKind.i64 (-1), Value.int IntKind.i64 (-2)] 3)) := ⟨_, rfl⟩
  have hsz : W.heap.size = w.heap.size + 2 := by rw [hW]; simp
  have i1 : Is W (.slice (some ⟨w.heap.size, 0, none⟩) 4 4) [2, 1, -1, -2] := by
    refine is_lit (p := [2, 1, -1, -2]) (by omega) (by decide) ⟨ei (by omega) (by omega) ?_, ei (by omega) (by omega) ?_, ei (by omega) (by omega) ?_, ei (by omega) (by omega) ?_, trivial⟩ <;> (rw [hW]; repeat (first | (refine cell_newg ?_ rfl; simp; done) | refine cell_old ?_))
  have i2 : Is W (.slice (some ⟨w.heap.size + 1, 0, none⟩) 4 4) [1, 2, -1, -2] := by
    refine is_lit (p := [1, 2, -1, -2]) (by omega) (by decide) ⟨ei (by omega) (by omega) ?_, ei (by omega) (by omega) ?_, ei (by omega) (by omega) ?_, ei (by omega) (by omega) ?_, trivial⟩ <;> (rw [hW]; repeat (first | (refine cell_newg ?_ rfl; simp; done) | refine cell_old ?_))
  rw [← hW] at hB ⊢
  refine (lpoGreater_any sv pv _ _ sumS [(2, 1)] [2, 1, -1, -2] [1, 2, -1, -2] W (hs.kp (Kp.of_below hB)) (hp.later hB) i1 i2 (hT.below hB) ex11_no).mono ?_
  rintro e w' ⟨rfl, hb⟩
  exact ⟨by rw [ex11_1], below_step hB hb⟩

set_option maxRecDepth 100000 in
theorem l11_2 (w : World) (sv pv : Value) (hs : Sg w sv sumS) (hp : Pc w pv [(2, 1)]) (hT : Tabs w) : Calls Tryd.prog 8 #[sv, pv, .slice (some ⟨w.heap.size, 0, none⟩) 4 4, .slice (some ⟨w.heap.size + 1, 0, none⟩) 4 4] ((w.alloc (Obj.cells #[Value.int IntKind.i64 1, Value.int IntKind.i64 2, Value.int IntKind.i64 (-1), Value.int IntKind.i64 (-2)] 3)).alloc (Obj.cells #[Value.int IntKind.i64 2, Value.int IntKind.i64 1, Value.int IntKind.i64 (-1), Value.int IntKind.i64 (-2)] 3))
    fun e w' => e = .returned (.bool false) ∧ Below w.heap.size w w' := by
  have hB : Below w.heap.size w ((w.alloc (Obj.cells #[Value.int IntKind.i64 1, Value.int IntKind.i64 2, Value.int IntKind.i64 (-1), Value.int IntKind.i64 (-2)] 3)).alloc (Obj.cells #[Value.int IntKind.i64 2, Value.int IntKind.i64 1, Value.int IntKind.i64 (-1), Value.int IntKind.i64 (-2)] 3)) := (below_step (below_alloc _) (below_alloc _))
  obtain ⟨W, hW⟩ : ∃ W, W = ((w.alloc (Obj.cells #[Value.int IntKind.i64 1, Value.int IntKind.i64 2, Value.int IntKind.i64 (-1), Value.int IntKind.i64 (-2)] 3)).alloc (Obj.cells #[Value.int IntKind.i64 2, Value.int IntKind.i64 1, Value.int IntKind.i64 (-1), Value.int IntKind.i64 (-2)] 3)) := ⟨_, rfl⟩
  have hsz : W.heap.size = w.heap.size + 2 := by rw [hW]; simp
  have i1 : Is W (.slice (some ⟨w.heap.size, 0, none⟩) 4 4) [1, 2, -1, -2] := by
    refine is_lit (p := [1, 2, -1, -2]) (by omega) (by decide) ⟨ei (by omega) (by omega) ?_, ei (by omega) (by omega) ?_, ei (by omega) (by omega) ?_, ei (by omega) (by omega) ?_, trivial⟩ <;> (rw [hW]; repeat (first | (refine cell_newg ?_ rfl; simp; done) | refine cell_old ?_))
  have i2 : Is W (.slice (some ⟨w.heap.size + 1, 0, none⟩) 4 4) [2, 1, -1, -2] := by
    refine is_lit (p := [2, 1, -1, -2]) (by omega) (by decide) ⟨ei (by omega) (by omega) ?_, ei (by omega) (by omega) ?_, ei (by omega) (by omega) ?_, ei (by omega) (by omega) ?_, trivial⟩ <;> (rw [hW]; repeat (first | (refine cell_newg ?_ rfl; simp; done) | refine cell_old ?_))
  rw [← hW] at hB ⊢
  refine (lpoGreater_any sv pv _ _ sumS [(2, 1)] [1, 2, -1, -2] [2, 1, -1, -2] W (hs.kp (Kp.of_below hB)) (hp.later hB) i1 i2 (hT.below hB) ex11_no).mono ?_
  rintro e w' ⟨rfl, hb⟩
  exact ⟨by rw [ex11_2], below_step hB hb⟩

set_option maxRecDepth 100000 in
theorem l11_3 (w : World) (sv pv : Value) (hs : Sg w sv sumS) (hp : Pc w pv [(2, 1)]) (hT : Tabs w) : Calls Tryd.prog 8 #[sv, pv, .slice (some ⟨w.heap.size, 0, none⟩) 4 4, .slice (some ⟨w.heap.size + 1, 0, none⟩) 4 4] ((w.alloc (Obj.cells #[Value.int IntKind.i64 2, Value.int IntKind.i64 1, Value.int IntKind.i64 0, Value.int IntKind.i64 0] 3)).alloc (Obj.cells #[Value.int IntKind.i64 2, Value.int IntKind.i64 0, Value.int IntKind.i64 1, Value.int IntKind.i64 0] 3))
    fun e w' => e = .returned (.bool true) ∧ Below w.heap.size w w' := by
  have hB : Below w.heap.size w ((w.alloc (Obj.cells #[Value.int IntKind.i64 2, Value.int IntKind.i64 1, Value.int IntKind.i64 0, Value.int IntKind.i64 0] 3)).alloc (Obj.cells #[Value.int IntKind.i64 2, Value.int IntKind.i64 0, Value.int IntKind.i64 1, Value.int IntKind.i64 0] 3)) := (below_step (below_alloc _) (below_alloc _))
  obtain ⟨W, hW⟩ : ∃ W, W = ((w.alloc (Obj.cells #[Value.int IntKind.i64 2, Value.int IntKind.i64 1, Value.int IntKind.i64 0, Value.int IntKind.i64 0] 3)).alloc (Obj.cells #[Value.int IntKind.i64 2, Value.int IntKind.i64 0, Value.int IntKind.i64 1, Value.int IntKind.i64 0] 3)) := ⟨_, rfl⟩
  have hsz : W.heap.size = w.heap.size + 2 := by rw [hW]; simp
  have i1 : Is W (.slice (some ⟨w.heap.size, 0, none⟩) 4 4) [2, 1, 0, 0] := by
    refine is_lit (p := [2, 1, 0, 0]) (by omega) (by decide) ⟨ei (by omega) (by omega) ?_, ei (by omega) (by omega) ?_, ei (by omega) (by omega) ?_, ei (by omega) (by omega) ?_, trivial⟩ <;> (rw [hW]; repeat (first | (refine cell_newg ?_ rfl; simp; done) | refine cell_old ?_))
  have i2 : Is W (.slice (some ⟨w.heap.size + 1, 0, none⟩) 4 4) [2, 0, 1, 0] := by
    refine is_lit (p := [2, 0, 1, 0]) (by omega) (by decide) ⟨ei (by omega) (by omega) ?_, ei (by omega) (by omega) ?_, ei (by omega) (by omega) ?_, ei (by omega) (by omega) ?_, trivial⟩ <;> (rw [hW]; repeat (first | (refine cell_newg ?_ rfl; simp; done) | refine cell_old ?_))
  rw [← hW] at hB ⊢
  refine (lpoGreater_any sv pv _ _ sumS [(2, 1)] [2, 1, 0, 0] [2, 0, 1, 0] W (hs.kp (Kp.of_below hB)) (hp.later hB) i1 i2 (hT.below hB) ex11_no).mono ?_
  rintro e w' ⟨rfl, hb⟩
  exact ⟨by rw [ex11_3], below_step hB hb⟩

set_option maxRecDepth 100000 in
theorem l11_4 (w : World) (sv pv : Value) (hs : Sg w sv sumS) (hp : Pc w pv [(2, 1)]) (hT : Tabs w) : Calls Tryd.prog 8 #[sv, pv, .slice (some ⟨w.heap.size, 0, none⟩) 2 2, .slice (some ⟨w.heap.size + 1, 0, none⟩) 1 1] ((w.alloc (Obj.cells #[Value.int IntKind.i64 1, Value.int IntKind.i64 (-1)] 3)).alloc (Obj.cells #[Value.int IntKind.i64 (-2)] 3))
    fun e w' => e = .returned (.bool false) ∧ Below w.heap.size w w' := by
  have hB : Below w.heap.size w ((w.alloc (Obj.cells #[Value.int IntKind.i64 1, Value.int IntKind.i64 (-1)] 3)).alloc (Obj.cells #[Value.int IntKind.i64 (-2)] 3)) := (below_step (below_alloc _) (below_alloc _))
  obtain ⟨W, hW⟩ : ∃ W, W = ((w.alloc (Obj.cells #[Value.int IntKind.i64 1, Value.int IntKind.i64 (-1)] 3)).alloc (Obj.cells #[Value.int IntKind.i64 (-2)] 3)) := ⟨_, rfl⟩
  have hsz : W.heap.size = w.heap.size + 2 := by rw [hW]; simp
  have i1 : Is W (.slice (some ⟨w.heap.size, 0, none⟩) 2 2) [1, -1] := by
    refine is_lit (p := [1, -1]) (by omega) (by decide) ⟨ei (by omega) (by omega) ?_, ei (by omega) (by omega) ?_, trivial⟩ <;> (rw [hW]; repeat (first | (refine cell_newg ?_ rfl; simp; done) | refine cell_old ?_))
  have i2 : Is W (.slice (some ⟨w.heap.size + 1, 0, none⟩) 1 1) [-2] := by
    refine is_lit (p := [-2]) (by omega) (by decide) ⟨ei (by omega) (by omega) ?_, trivial⟩ <;> (rw [hW]; repeat (first | (refine cell_newg ?_ rfl; simp; done) | refine cell_old ?_))
  rw [← hW] at hB ⊢
  refine (lpoGreater_any sv pv _ _ sumS [(2, 1)] [1, -1] [-2] W (hs.kp (Kp.of_below hB)) (hp.later hB) i1 i2 (hT.below hB) ex11_no).mono ?_
  rintro e w' ⟨rfl, hb⟩
  exact ⟨by rw [ex11_4], below_step hB hb⟩

set_option maxRecDepth 100000 in
theorem l11_5 (w : World) (sv pv : Value) (hs : Sg w sv sumS) (hp : Pc w pv [(2, 1)]) (hT : Tabs w) : Calls Tryd.prog 9 #[sv, pv, .agg #[.slice (some ⟨w.heap.size, 0, none⟩) 2 2, .slice (some ⟨w.heap.size + 1, 0, none⟩) 3 3]] ((w.alloc (Obj.cells #[Value.int IntKind.i64 1, Value.int IntKind.i64 (-1)] 3)).alloc (Obj.cells #[Value.int IntKind.i64 2, Value.int IntKind.i64 (-1), Value.int IntKind.i64 (-1)] 3))
    fun e w' => e = .returned (.int .i64 (-1)) ∧ Below w.heap.size w w' := by
  have hB : Below w.heap.size w ((w.alloc (Obj.cells #[Value.int IntKind.i64 1, Value.int IntKind.i64 (-1)] 3)).alloc (Obj.cells #[Value.int IntKind.i64 2, Value.int IntKind.i64 (-1), Value.int IntKind.i64 (-1)] 3)) := (below_step (below_alloc _) (below_alloc _))
  obtain ⟨W, hW⟩ : ∃ W, W = ((w.alloc (Obj.cells #[Value.int IntKind.i64 1, Value.int IntKind.i64 (-1)] 3)).alloc (Obj.cells #[Value.int IntKind.i64 2, Value.int IntKind.i64 (-1), Value.int IntKind.i64 (-1)] 3)) := ⟨_, rfl⟩
  have hsz : W.heap.size = w.heap.size + 2 := by rw [hW]; simp
  have i1 : Is W (.slice (some ⟨w.heap.size, 0, none⟩) 2 2) [1, -1] := by
    refine is_lit (p := [1, -1]) (by omega) (by decide) ⟨ei (by omega) (by omega) ?_, ei (by omega) (by omega) ?_, trivial⟩ <;> (rw [hW]; repeat (first | (refine cell_newg ?_ rfl; simp; done) | refine cell_old ?_))
  have i2 : Is W (.slice (some ⟨w.heap.size + 1, 0, none⟩) 3 3) [2, -1, -1] := by
    refine is_lit (p := [2, -1, -1]) (by omega) (by decide) ⟨ei (by omega) (by omega) ?_, ei (by omega) (by omega) ?_, ei (by omega) (by omega) ?_, trivial⟩ <;> (rw [hW]; repeat (first | (refine cell_newg ?_ rfl; simp; done) | refine cell_old ?_))
  rw [← hW] at hB ⊢
  refine (lpoOrient_any sv pv _ _ sumS [(2, 1)] [1, -1] [2, -1, -1] W (hs.kp (Kp.of_below hB)) (hp.later hB) i1 i2 (hT.below hB) ex11_no).mono ?_
  rintro e w' ⟨rfl, hb⟩
  exact ⟨by rw [ex11_5], below_step hB hb⟩

set_option maxRecDepth 100000 in
set_option maxHeartbeats 1600000 in
theorem shown11_any (w : World) (hT : Tabs w) : Calls Tryd.prog 4 #[] w fun e w' => e = .returned (.bool true) ∧ Below w.heap.size w w' := by
  have HT := hid hT
  clear hT
  go_enter Tryd.func4, Tryd.ntmps4
  go_wp2_with fail
  refine (three11_any w).mono ?_
  rintro e w1 ⟨sv, rfl, hs, hb⟩
  have HS := hid hs
  have HB := hid hb
  clear hs hb
  have HBa := hid (below_step HB.out (below_alloc (w := w1) (.cells #[.int .i64 2, .int .i64 1] 44)))
  have HSa := hid (HS.out.kp (Kp.of_below (below_alloc (w := w1) (.cells #[.int .i64 2, .int .i64 1] 44))))
  have HPr := hid (prs_one w1 2 1 (by decide) (by decide))
  go_wp2_with fail
  refine (close_any 3 _ [(2, 1)] _ HPr.out).mono ?_
  intro e w2 hc
  obtain ⟨hb2, gp, rfl, hp⟩ := hc.ok ex11_close
  have HP := hid hp
  have HB2 := hid (below_step HBa.out hb2)
  have HS2 := hid (HSa.out.kp (Kp.of_below hb2))
  clear hc hb2 hp HBa HSa HPr HS HB
  go_wp2_with fail
  refine (l11_1 w2 sv _ HS2.out HP.out (HT.out.below HB2.out)).mono ?_
  rintro e w3 ⟨rfl, hb⟩
  have HBn := hid (below_step HB2.out hb)
  have HSn := hid (HS2.out.kp (Kp.of_below hb))
  have HPn := hid (HP.out.later hb)
  clear hb HB2 HS2 HP
  have HB2 := HBn
  have HS2 := HSn
  have HP := HPn
  clear HBn HSn HPn
  go_wp2_with fail
  refine (l11_2 w3 sv _ HS2.out HP.out (HT.out.below HB2.out)).mono ?_
  rintro e w4 ⟨rfl, hb⟩
  have HBn := hid (below_step HB2.out hb)
  have HSn := hid (HS2.out.kp (Kp.of_below hb))
  have HPn := hid (HP.out.later hb)
  clear hb HB2 HS2 HP
  have HB2 := HBn
  have HS2 := HSn
  have HP := HPn
  clear HBn HSn HPn
  go_wp2_with fail
  refine (l11_3 w4 sv _ HS2.out HP.out (HT.out.below HB2.out)).mono ?_
  rintro e w5 ⟨rfl, hb⟩
  have HBn := hid (below_step HB2.out hb)
  have HSn := hid (HS2.out.kp (Kp.of_below hb))
  have HPn := hid (HP.out.later hb)
  clear hb HB2 HS2 HP
  have HB2 := HBn
  have HS2 := HSn
  have HP := HPn
  clear HBn HSn HPn
  go_wp2_with fail
  refine (l11_4 w5 sv _ HS2.out HP.out (HT.out.below HB2.out)).mono ?_
  rintro e w6 ⟨rfl, hb⟩
  have HBn := hid (below_step HB2.out hb)
  have HSn := hid (HS2.out.kp (Kp.of_below hb))
  have HPn := hid (HP.out.later hb)
  clear hb HB2 HS2 HP
  have HB2 := HBn
  have HS2 := HSn
  have HP := HPn
  clear HBn HSn HPn
  go_wp2_with fail
  refine (l11_5 w6 sv _ HS2.out HP.out (HT.out.below HB2.out)).mono ?_
  rintro e w7 ⟨rfl, hb⟩
  have HBn := hid (below_step HB2.out hb)
  have HSn := hid (HS2.out.kp (Kp.of_below hb))
  have HPn := hid (HP.out.later hb)
  clear hb HB2 HS2 HP
  have HB2 := HBn
  have HS2 := HSn
  have HP := HPn
  clear HBn HSn HPn
  go_wp2
  go_ret
  exact ⟨rfl, HB2.out⟩

/-- What both answers. -/
def BothO (n : Int) (ps : List (Int × Int)) (w : World) (e : Ending) (w' : World) : Prop :=
  Below w.heap.size w w' ∧ ((closeE n ps = 0 ∧ ∃ g h, e = .returned (.tuple #[.pointer (some ⟨g, 0, none⟩), .pointer (some ⟨h, 0, none⟩), .bool true]) ∧ Pc w' (.pointer (some ⟨g, 0, none⟩)) ps ∧ Rc w' (.pointer (some ⟨h, 0, none⟩)) ps) ∨ (closeE n ps ≠ 0 ∧ e = .returned (.tuple #[.pointer none, .pointer none, .bool true])))

set_option maxRecDepth 100000 in
set_option maxHeartbeats 1600000 in
theorem both11_any (sv v : Value) (sig : List Sy) (ps : List (Int × Int)) (w : World) (hs : Sg w sv sig) (hp : Prs w v ps) :
    Calls Tryd.prog 5 #[sv, v] w (BothO sig.length ps w) := by
  obtain ⟨so, sc, rfl, hs1, hs2, _⟩ := Row.flat hs
  unfold maxLen at hs2
  have HP := hid hp
  clear hs hp
  go_enter Tryd.func5, Tryd.ntmps5
  go_wp2_with fail
  refine (close_any sig.length v ps w HP.out).mono ?_
  intro e w1 hc
  have HB1 := hid hc.1
  by_cases h0 : closeE sig.length ps = 0
  · obtain ⟨_, g, rfl, hp1⟩ := hc.ok h0
    have H0 := hid h0
    have HP1 := hid hp1
    clear hc hp1 h0
    go_wp2_with fail
    refine (refClose_any sig.length v ps w1 (HP.out.later HB1.out)).mono ?_
    intro e w2 hc2
    obtain ⟨hb2, g2, rfl, hq⟩ := hc2.ok H0.out
    have HB2 := hid (below_step HB1.out hb2)
    have HP2 := hid (HP1.out.later hb2)
    have HQ2 := hid hq
    clear hc2 hb2 hq
    go_wp2
    go_ret3
    exact ⟨HB2.out, .inl ⟨H0.out, g, g2, rfl, HP2.out, HQ2.out⟩⟩
  · obtain ⟨_, rfl⟩ := hc.err rfl h0
    have H0 := hid h0
    have HR := hid (fun (e : Ending) (w' : World) (h : RefO sig.length ps w1 e w') => h.err rfl h0)
    clear hc
    obtain ⟨E, hE⟩ : ∃ E, E = closeE sig.length ps := ⟨_, rfl⟩
    rw [← hE] at HR h0 ⊢
    clear hE
    have hEb : (E == 0) = false := by simpa using h0
    have hEn : (E != 0) = true := by simpa using h0
    go_wp2_with fail
    refine (refClose_any sig.length v ps w1 (HP.out.later HB1.out)).mono ?_
    intro e w2 hc2
    obtain ⟨hb2, rfl⟩ := HR.out e w2 hc2
    have HB2 := hid (below_step HB1.out hb2)
    clear hc2 hb2
    go_wp2
    go_ret3
    exact ⟨HB2.out, .inr ⟨H0.out, rfl⟩⟩

set_option maxRecDepth 100000 in
set_option maxHeartbeats 800000 in
theorem term11_any (sv v : Value) (sig : List Sy) (t : List Int) (w : World) (hs : Sg w sv sig) (h : Is w v t) (hl : t.length * 8 ≤ 140737488351232) :
    Calls Tryd.prog 6 #[sv, v] w fun e w' => e = .returned (.bool (mayB sig t)) ∧ Below w.heap.size w w' := by
  obtain ⟨ao, cap, rfl, hao, hca, _⟩ := h.flatI
  have HS := hid hs
  have HI := hid h
  clear hs h
  go_enter Tryd.func6, Tryd.ntmps6
  go_wp2_with fail
  refine (refCheck_any sv _ sig t w HS.out HI.out hl).mono ?_
  rintro e w1 ⟨rfl, hb1⟩
  have HB1 := hid hb1
  clear hb1
  have HD : Hid (mayB sig t = (decide (t.length ≤ 512) && decide (termE sig t = 0))) := rfl
  obtain ⟨E, hE⟩ : ∃ E, E = termE sig t := ⟨_, rfl⟩
  rw [← hE] at HD ⊢
  clear hE
  by_cases h0 : E = 0
  · subst h0
    by_cases hl5 : t.length ≤ 512
    · have hd : decide ((t.length : Int) ≤ 512) = true := decide_eq_true (by omega)
      go_wp2
      go_ret
      exact ⟨by rw [HD.out, decide_eq_true hl5]; rfl, HB1.out⟩
    · have hd : decide ((t.length : Int) ≤ 512) = false := decide_eq_false (by omega)
      have hl2 : ¬ ((t.length : Int) ≤ 512) := by omega
      go_wp2
      go_ret
      exact ⟨by rw [HD.out, decide_eq_false hl5]; rfl, HB1.out⟩
  · have heb : (E == 0) = false := by simpa using h0
    go_wp2
    go_ret
    exact ⟨by rw [HD.out, decide_eq_false h0, Bool.and_false]; rfl, HB1.out⟩

end Go.Proofs.YthjghdpiokpnfabDoor

/- The document's End and place walked. -/
namespace Go.Proofs.YthjghdpiokpnfabDoor
open Go.RowKit Go.Maps Go.BigFrame

theorem codeD_neg {sig : List Sy} {c e : Int} (h : codeD sig c = some e) (hc : c < 0) : e = -1 := by
  unfold codeD at h
  split at h
  · cases h
  · first
    | (rw [if_pos hc] at h; cases h; rfl)
    | (cases h; rfl)

theorem codeD_get {sig : List Sy} {c : Nat} {e : Int} (h : codeD sig (c : Int) = some e) : ∃ s, sig[c]? = some s ∧ e = s.2 - 1 := by
  unfold codeD at h
  rw [if_neg (by omega), if_neg (by omega), Int.toNat_natCast] at h
  cases hs : sig[c]? with
  | none => rw [hs] at h; cases h
  | some s =>
    rw [hs] at h
    cases h
    exact ⟨s, rfl, rfl⟩

/-- What is wrong with a place. -/
theorem place_eq {sig : List Sy} {t : List Int} {p : Int} (h : termE sig t = 0) : placeE sig t p = if p < 0 ∨ (t.length : Int) ≤ p then 33 else 0 := by
  unfold placeE
  rw [if_pos h]
  unfold endP
  by_cases hp : p < 0 ∨ (t.length : Int) ≤ p
  · rw [if_pos hp, if_pos hp]
  · rw [if_neg hp, if_neg hp]
    obtain ⟨k, rfl⟩ : ∃ k : Nat, p = k := ⟨p.toNat, by omega⟩
    have hk : k < t.length := by omega
    obtain ⟨h1, h2⟩ := term_parts h
    obtain ⟨_, _, h3, _⟩ := at_place (sigE_ok h1) h2 hk
    rw [Int.toNat_natCast, h3]

theorem place_in {sig : List Sy} {t : List Int} {k : Nat} (h : termE sig t = 0) (hk : k < t.length) : placeE sig t k = 0 := by
  rw [place_eq h, if_neg (by omega)]

theorem place_end {sig : List Sy} {t : List Int} {k : Nat} (h : termE sig t = 0) (hk : k < t.length) : endP sig t k = (((k + nodes sig t k : Nat) : Int), 0) := by
  obtain ⟨h1, h2⟩ := term_parts h
  obtain ⟨_, _, h3, _⟩ := at_place (sigE_ok h1) h2 hk
  unfold endP
  rw [if_neg (by omega), Int.toNat_natCast, h3]
  simp only [Prod.mk.injEq, and_true]
  omega

theorem sub_eq {sig : List Sy} {t : List Int} {k : Nat} (h : termE sig t = 0) (hk : k < t.length) : subL sig t k = (t.drop k).take (nodes sig t k) := by
  unfold subL
  rw [if_pos (place_in h hk), place_end h hk, Int.toNat_natCast, Int.toNat_natCast, show k + nodes sig t k - k = nodes sig t k by omega]

end Go.Proofs.YthjghdpiokpnfabDoor

/- The document's Kids, Sub, Above, Vars walked. -/
namespace Go.Proofs.YthjghdpiokpnfabDoor
open Go.RowKit Go.Maps Go.BigFrame

/-- A symbol's arguments, where they stand. -/
theorem kids_parts {sig : List Sy} {t : List Int} {k : Nat} {c : Int} (h : placeE sig t k = 0) (hc : t[k]? = some c) (h0 : ¬ c < 0) :
    ∃ (us : List (List Int)) (q : List Int), us.length = arN sig c ∧ t.drop (k + 1) = us.flatten ++ q ∧ (∀ u ∈ us, rowE sig u = 0) ∧ kidsL sig t k = places (k + 1) (us.map List.length) := by
  obtain ⟨ha, hr, k', m, hk, hkl, hm1, hend, hkm, hsub, hrow⟩ := placeE_ok h
  obtain rfl : k = k' := by omega
  have hd := drop_get hc
  obtain ⟨m', rfl⟩ : ∃ m', m = m' + 1 := ⟨m - 1, by omega⟩
  rw [hd, List.take_succ_cons] at hsub hrow
  obtain ⟨us, u1, u2, u3, u4⟩ := kids_tree ha hrow h0
  refine ⟨us, (t.drop (k + 1)).drop m', u1, by rw [← u2, List.take_append_drop], u3, ?_⟩
  unfold kidsL
  rw [hsub, Int.toNat_natCast, u4]
  show kidsGo (k + 1) (us.flatMap (growR sig)) = _
  rw [kids_places, ← grow_map ha us u3, grow_flat ha us u3]

theorem kids_var {sig : List Sy} {t : List Int} {k : Nat} {c : Int} (h : placeE sig t k = 0) (hc : t[k]? = some c) (h0 : c < 0) : kidsL sig t k = [] := by
  rw [kids_eq h hc, if_pos h0]

theorem drop_next {us : List (List Int)} {i : Nat} {u : List Int} (h : us[i]? = some u) (q : List Int) : (us.drop i).flatten ++ q = u ++ ((us.drop (i + 1)).flatten ++ q) := by
  rw [drop_get h, List.flatten_cons, List.append_assoc]

theorem first_right {sig : List Sy} {u : List Int} (h : rowE sig u = 0) (q : List Int) : firstT sig 1 0 (u ++ q) = ((u.length : Int), 0) := first_more q u 1 0 _ (by rw [row_first.1 h])

theorem place_term {sig : List Sy} {t : List Int} {p : Int} (h : placeE sig t p = 0) : termE sig t = 0 := by
  unfold placeE at h
  by_cases ht : termE sig t = 0
  · exact ht
  · rw [if_neg ht] at h; exact h

/-- The places above a place, as they are told. -/
def aboveL (sig : List Sy) (t : List Int) (p : Int) : List Int := if placeE sig t p = 0 then (abD sig t p.toNat).map fun i : Nat => (i : Int) else []

end Go.Proofs.YthjghdpiokpnfabDoor

/- What the document's Shift answers. -/
namespace Go.Proofs.YthjghdpiokpnfabDoor
open Go.RowKit Go.Maps Go.BigFrame

set_option maxRecDepth 100000 in
set_option maxHeartbeats 1600000 in
theorem refShift_any (v : Value) (t : List Int) (d : Int) (w : World) (h : Is w v t) (hb : t.length * 8 ≤ 140737488351232) (hd1 : -9223372036854775808 ≤ d) (hd2 : d ≤ 9223372036854775807) :
    Calls Tryd.prog 7 #[v, .int .i64 d] w fun e w' => ∃ v', e = .returned (.tuple #[v', .int .i64 (shiftE d t)]) ∧ OwI w' w.heap.size v' (shiftL d t) ∧ Below w.heap.size w w' := by
  obtain ⟨ao, cap, rfl, hao, hca, q0⟩ := Row.flat h
  unfold maxLen at hca
  have HT := hid h
  clear h q0
  go_enter Tryd.func7, Tryd.ntmps7
  go_wp2
  go_loopw [6, 7] (fun x i wr => ∃ k : Nat, k ≤ t.length ∧ i = .int .i64 k ∧ (∀ c ∈ t.take k, c < 0 → isVarB (-1 - c + d) = true) ∧ OwI wr w.heap.size x ((t.take k).map fun c => if c < 0 then c - d else c) ∧ Below w.heap.size w wr) (fun _ i _ => t.length - (intOf i).toNat)
  case atStart => exact ⟨0, Nat.zero_le _, rfl, fun c hc => (by simp at hc), ⟨fun k x hk => (by simp at hk), empty_row _ (Nat.le_refl _)⟩, below_alloc _⟩
  case round =>
    obtain ⟨k, hk, rfl, hpre, how, hbl⟩ := hrel
    have hol : ((t.take k).map fun c => if c < 0 then c - d else c).length = k := by rw [List.length_map, List.length_take]; omega
    obtain ⟨bo, bc, hv, hbc1, hbc2⟩ := how.shape
    rw [hol] at hv hbc1
    subst hv
    unfold maxLen at hbc2
    have HPre := hid hpre
    have HOw := hid how
    have HB := hid hbl
    have HOl := hid hol
    clear hpre how hol
    by_cases hlt : k < t.length
    · obtain ⟨ga, off, c, rfl, hx1, hx2, hx3, hx4⟩ := (HT.out.kp (Kp.of_below hbl)).at hlt
      have HG := hid hx1
      have HMem : Hid (c ∈ t) := List.mem_of_getElem? hx1
      have HPre2' : (c < 0 → isVarB (-1 - c + d) = true) → ∀ x ∈ t.take (k + 1), x < 0 → isVarB (-1 - x + d) = true := fun hcv x hx h0 => by
        rw [List.take_add_one, HG.out, List.mem_append] at hx
        rcases hx with hx | hx
        · exact HPre.out x hx h0
        · simp at hx
          subst hx
          exact hcv h0
      have HPq := hid HPre2'
      clear hx1 hbl HPre2'
      obtain ⟨n, hn⟩ : ∃ n, n = -1 - c := ⟨_, rfl⟩
      have hwn : IntKind.i64.wrap (-1 - c) = n := by rw [hn]; exact IntWalk.i64_in _ ⟨by omega, by omega⟩
      by_cases hc0 : 0 ≤ c
      · have HPre2 := hid (HPq.out (fun h => absurd h (by omega)))
        have hcn : ¬ c < 0 := by omega
        obtain ⟨v4, w4, hr4, ho4, hg4⟩ := join_ints 24 (u := .slice (some ⟨wr.heap.size, 0, none⟩) 1 1) (es := [c]) (HOw.out.later (below_alloc (.cells #[.int .i64 (c)] 3))) (is_new wr [c] _ (by intro x hx; simp at hx; omega) (by simp)) (b1 HB.out).size (by rw [HOl.out]; simp; omega)
        have HR4 := hid hr4
        have HO4 : Hid (OwI w4 w.heap.size v4 ((t.take (k + 1)).map fun c => if c < 0 then c - d else c)) := by
          have h9 := ho4
          rw [List.take_add_one, HG.out, List.map_append]
          simp only [Option.toList, List.map_cons, List.map_nil, if_neg hcn]
          exact h9
        have HB4 : Hid (Below w.heap.size w w4) := (b1 HB.out).grown hg4 (b1 HB.out).size (fun j hj => own_blk HOw.out.2 hj)
        clear hr4 ho4 hg4
        go_wp2_with (first
          | (at_builtin; refine wpList_append_run rfl _ _ _ rfl _ _ rfl rfl HR4.out ?_))
        go_roundw
        case rel => exact ⟨k + 1, by omega, by go_num, HPre2.out, HO4.out, HB4.out⟩
        case measure => simp [intOf]; omega
      · have hcn : c < 0 := by omega
        by_cases hv : isVarB (-1 - c + d) = true
        · have HPre2 := hid (HPq.out (fun _ => hv))
          have hv2 := isVarB_iff.1 hv
          obtain ⟨m, hm⟩ : ∃ m, m = n + d := ⟨_, rfl⟩
          obtain ⟨y, hy⟩ : ∃ y, y = c - d := ⟨_, rfl⟩
          have hwm : IntKind.i64.wrap (n + d) = m := by rw [hm]; exact IntWalk.i64_in _ ⟨by omega, by omega⟩
          have hwy : IntKind.i64.wrap (-1 - m) = y := by rw [IntWalk.i64_in _ ⟨by omega, by omega⟩]; omega
          have hdm : ¬ 1048576 ≤ d := by omega
          have hm0 : ¬ m < 0 := by omega
          have hm1 : ¬ 1048576 ≤ m := by omega
          by_cases hd0 : 0 ≤ d
          · have hwd : IntKind.i64.wrap (1048576 - d) = 1048576 - d := IntWalk.i64_in _ ⟨by omega, by omega⟩
            have hnd : ¬ 1048576 - d ≤ n := by omega
            obtain ⟨v4, w4, hr4, ho4, hg4⟩ := join_ints 24 (u := .slice (some ⟨wr.heap.size, 0, none⟩) 1 1) (es := [y]) (HOw.out.later (below_alloc (.cells #[.int .i64 (y)] 3))) (is_new wr [y] _ (by intro x hx; simp at hx; omega) (by simp)) (b1 HB.out).size (by rw [HOl.out]; simp; omega)
            have HR4 := hid hr4
            have HO4 : Hid (OwI w4 w.heap.size v4 ((t.take (k + 1)).map fun c => if c < 0 then c - d else c)) := by
              have h9 := ho4
              rw [List.take_add_one, HG.out, List.map_append]
              simp only [Option.toList, List.map_cons, List.map_nil, if_pos hcn, ← hy]
              exact h9
            have HB4 : Hid (Below w.heap.size w w4) := (b1 HB.out).grown hg4 (b1 HB.out).size (fun j hj => own_blk HOw.out.2 hj)
            clear hr4 ho4 hg4 hn hm hy hv hv2
            go_wp2_with (first
              | (at_builtin; refine wpList_append_run rfl _ _ _ rfl _ _ rfl rfl HR4.out ?_))
            go_roundw
            case rel => exact ⟨k + 1, by omega, by go_num, HPre2.out, HO4.out, HB4.out⟩
            case measure => simp [intOf]; omega
          · have hnd : ¬ 0 ≤ d := hd0
            obtain ⟨v4, w4, hr4, ho4, hg4⟩ := join_ints 24 (u := .slice (some ⟨wr.heap.size, 0, none⟩) 1 1) (es := [y]) (HOw.out.later (below_alloc (.cells #[.int .i64 (y)] 3))) (is_new wr [y] _ (by intro x hx; simp at hx; omega) (by simp)) (b1 HB.out).size (by rw [HOl.out]; simp; omega)
            have HR4 := hid hr4
            have HO4 : Hid (OwI w4 w.heap.size v4 ((t.take (k + 1)).map fun c => if c < 0 then c - d else c)) := by
              have h9 := ho4
              rw [List.take_add_one, HG.out, List.map_append]
              simp only [Option.toList, List.map_cons, List.map_nil, if_pos hcn, ← hy]
              exact h9
            have HB4 : Hid (Below w.heap.size w w4) := (b1 HB.out).grown hg4 (b1 HB.out).size (fun j hj => own_blk HOw.out.2 hj)
            clear hr4 ho4 hg4 hn hm hy hv hv2
            go_wp2_with (first
              | (at_builtin; refine wpList_append_run rfl _ _ _ rfl _ _ rfl rfl HR4.out ?_))
            go_roundw
            case rel => exact ⟨k + 1, by omega, by go_num, HPre2.out, HO4.out, HB4.out⟩
            case measure => simp [intOf]; omega
        · have HE : Hid (shiftE d t = 40 ∧ shiftL d t = []) := by
            have hno : ¬ okShift d t = true := fun h => hv (by
              have := List.all_eq_true.1 h c HMem.out
              simpa [hcn] using this)
            exact ⟨by unfold shiftE; rw [if_neg hno], by unfold shiftL; rw [if_neg hno]⟩
          have hv2 : ¬ (0 ≤ -1 - c + d ∧ -1 - c + d < 1048576) := fun h => hv (isVarB_iff.2 h)
          obtain ⟨m, hm⟩ : ∃ m, m = n + d := ⟨_, rfl⟩
          by_cases hd9 : 1048576 ≤ d
          · go_wp2
            go_ret2
            exact ⟨_, ret2i HE.out.1.symm, by rw [HE.out.2]; exact nilI _ _, HB.out⟩
          · by_cases hd0 : 0 ≤ d
            · have hwd : IntKind.i64.wrap (1048576 - d) = 1048576 - d := IntWalk.i64_in _ ⟨by omega, by omega⟩
              have hnd : 1048576 - d ≤ n := by omega
              go_wp2
              go_ret2
              exact ⟨_, ret2i HE.out.1.symm, by rw [HE.out.2]; exact nilI _ _, HB.out⟩
            · have hwm : IntKind.i64.wrap (n + d) = m := by rw [hm]; exact IntWalk.i64_in _ ⟨by omega, by omega⟩
              by_cases hm0 : m < 0
              · go_wp2
                go_ret2
                exact ⟨_, ret2i HE.out.1.symm, by rw [HE.out.2]; exact nilI _ _, HB.out⟩
              · have hm1 : 1048576 ≤ m := by omega
                go_wp2
                go_ret2
                exact ⟨_, ret2i HE.out.1.symm, by rw [HE.out.2]; exact nilI _ _, HB.out⟩
    · have hke : k = t.length := by omega
      subst hke
      have HE : Hid (shiftE d t = 0 ∧ shiftL d t = t.map fun c => if c < 0 then c - d else c) := by
        have h9 := HPre.out
        rw [List.take_length] at h9
        have hok : okShift d t = true := List.all_eq_true.2 fun c hc => by
          by_cases h0 : c < 0
          · simp [h9 c hc h0]
          · simp [h0]
        exact ⟨by unfold shiftE; rw [if_pos hok], by unfold shiftL; rw [if_pos hok]⟩
      rw [List.take_length] at HOw
      go_wp2
      go_ret2
      exact ⟨_, ret2i HE.out.1.symm, by rw [HE.out.2]; exact HOw.out, HB.out⟩

end Go.Proofs.YthjghdpiokpnfabDoor


/- Canon, plainly: it is blind to a renaming, and numbers what it numbered the same again. -/
namespace Go.Proofs.YthjghdpiokpnfabDoor
open Go.RowKit Go.Maps

/-- A code whose variable has another number. -/
def reC (f : Int → Int) (c : Int) : Int := if c < 0 then -1 - f (-1 - c) else c
def reK (f : Int → Int) (m : Met) : Met := m.map fun p => (f p.1, p.2)

theorem reK_lookup {f : Int → Int} {S : Int → Prop} (hf : ∀ a b, S a → S b → f a = f b → a = b) (n : Int) (hn : S n) : ∀ m : Met, (∀ p ∈ m, S p.1) → (reK f m).lookup (f n) = m.lookup n
  | [], _ => rfl
  | (k, i) :: m, h => by
    show List.lookup (f n) ((f k, i) :: reK f m) = _
    rw [List.lookup_cons, List.lookup_cons]
    have hk := h _ (.head _)
    by_cases e : n = k
    · subst e
      simp
    · rw [show (n == k) = false by simpa using e, show (f n == f k) = false by simp; exact fun e2 => e (hf n k hn hk e2)]
      exact reK_lookup hf n hn m (fun p hp => h p (.tail _ hp))

theorem numN_re {f : Int → Int} {S : Int → Prop} (hf : ∀ a b, S a → S b → f a = f b → a = b) (m : Met) (n : Int) (hm : ∀ p ∈ m, S p.1) (hn : S n) :
    numN (reK f m) (f n) = ((numN m n).1, reK f (numN m n).2) ∧ ∀ p ∈ (numN m n).2, S p.1 := by
  unfold numN
  rw [reK_lookup hf n hn m hm]
  cases m.lookup n with
  | some i => exact ⟨rfl, hm⟩
  | none =>
    refine ⟨by simp [reK], fun p hp => ?_⟩
    cases hp with
    | head => exact hn
    | tail _ hp => exact hm p hp

theorem renG_re {f : Int → Int} {S : Int → Prop} (hf : ∀ a b, S a → S b → f a = f b → a = b) (h0 : ∀ a, S a → 0 ≤ f a) : ∀ (t : List Int) (m : Met), (∀ p ∈ m, S p.1) → (∀ c ∈ t, c < 0 → S (-1 - c)) →
    renG numN (reK f m) (t.map (reC f)) = ((renG numN m t).1, reK f (renG numN m t).2) ∧ ∀ p ∈ (renG numN m t).2, S p.1
  | [], m, hm, _ => ⟨rfl, hm⟩
  | c :: t, m, hm, ht => by
    by_cases hc : c < 0
    · have hs := ht c (.head _) hc
      obtain ⟨e1, e2⟩ := numN_re hf m (-1 - c) hm hs
      obtain ⟨e3, e4⟩ := renG_re hf h0 t (numN m (-1 - c)).2 e2 (fun x hx => ht x (.tail _ hx))
      have hr : reC f c = -1 - f (-1 - c) := by unfold reC; rw [if_pos hc]
      have hneg : -1 - f (-1 - c) < 0 := by have := h0 _ hs; omega
      rw [List.map_cons, hr]
      simp only [renG, if_pos hneg, if_pos hc, show -1 - (-1 - f (-1 - c)) = f (-1 - c) by omega, e1, e3]
      exact ⟨trivial, e4⟩
    · obtain ⟨e3, e4⟩ := renG_re hf h0 t m hm (fun x hx => ht x (.tail _ hx))
      have hr : reC f c = c := by unfold reC; rw [if_neg hc]
      rw [List.map_cons, hr]
      simp only [renG, if_neg hc, e3]
      exact ⟨trivial, e4⟩

theorem canG_re {f : Int → Int} {S : Int → Prop} (hf : ∀ a b, S a → S b → f a = f b → a = b) (h0 : ∀ a, S a → 0 ≤ f a) : ∀ (l : List (List Int)) (m : Met), (∀ p ∈ m, S p.1) → (∀ t ∈ l, ∀ c ∈ t, c < 0 → S (-1 - c)) →
    canG (reK f m) (l.map fun t => t.map (reC f)) = canG m l
  | [], _, _, _ => rfl
  | t :: l, m, hm, hl => by
    obtain ⟨e1, e2⟩ := renG_re hf h0 t m hm (hl t (.head _))
    rw [List.map_cons]
    simp only [canG, e1]
    rw [canG_re hf h0 l _ e2 (fun x hx => hl x (.tail _ hx))]

/-- A row shifted is a row renamed. -/
theorem canL_shift (d : Int) (l : List (List Int)) (hl : ∀ t ∈ l, ∀ c ∈ t, c < 0 → 0 ≤ -1 - c + d) : canL (l.map fun t => t.map fun c => if c < 0 then c - d else c) = canL l := by
  have h := canG_re (f := fun n => n + d) (S := fun n => 0 ≤ n + d) (fun a b _ _ e => by omega) (fun a h => h) l [] (fun p hp => (by cases hp)) hl
  have e : (fun t : List Int => t.map (reC fun n => n + d)) = fun t => t.map fun c => if c < 0 then c - d else c := by
    funext t
    congr 1
    funext c
    unfold reC
    by_cases hc : c < 0
    · rw [if_pos hc, if_pos hc]
      show -1 - (-1 - c + d) = c - d
      omega
    · rw [if_neg hc, if_neg hc]
  rw [e] at h
  exact h

/-- What is met behind all rows. -/
def canS : Met → List (List Int) → Met
  | m, [] => m
  | m, t :: l => canS (renG numN m t).2 l

/-- What one holds the other holds. -/
def Ext (m m' : Met) : Prop := ∀ n i, m.lookup n = some i → m'.lookup n = some i

theorem ext_num (m : Met) (n : Int) : Ext m (numN m n).2 := fun k i hk => by
  unfold numN
  cases hn : m.lookup n with
  | some j => exact hk
  | none =>
    have e : k ≠ n := fun e => by rw [e, hn] at hk; cases hk
    show List.lookup k ((n, (m.length : Int)) :: m) = _
    rw [List.lookup_cons, show (k == n) = false by simpa using e]
    exact hk

theorem val_num (m : Met) (n : Int) : (numN m n).2.lookup n = some (numN m n).1 := by
  unfold numN
  cases hn : m.lookup n with
  | some j => exact hn
  | none =>
    show List.lookup n ((n, (m.length : Int)) :: m) = _
    rw [List.lookup_cons, show (n == n) = true by simp]

theorem ext_ren : ∀ (t : List Int) (m : Met), Ext m (renG numN m t).2
  | [], _ => fun _ _ h => h
  | c :: t, m => fun n i h => by
    unfold renG
    split
    · exact ext_ren t _ n i (ext_num m (-1 - c) n i h)
    · exact ext_ren t m n i h

theorem ext_can : ∀ (l : List (List Int)) (m : Met), Ext m (canS m l)
  | [], _ => fun _ _ h => h
  | t :: l, m => fun n i h => ext_can l _ n i (ext_ren t m n i h)

/-- The number that a variable has in the end. -/
def numF (F : Met) (n : Int) : Int := (F.lookup n).getD 0

theorem ren_map (F : Met) : ∀ (t : List Int) (m : Met), Ext (renG numN m t).2 F → (renG numN m t).1 = t.map (reC (numF F)) ∧ ∀ c ∈ t, c < 0 → (F.lookup (-1 - c)).isSome = true
  | [], _, _ => ⟨rfl, fun c hc => (by cases hc)⟩
  | c :: t, m, h => by
    by_cases hc : c < 0
    · have e : renG numN m (c :: t) = ((-1 - (numN m (-1 - c)).1) :: (renG numN (numN m (-1 - c)).2 t).1, (renG numN (numN m (-1 - c)).2 t).2) := by simp only [renG, if_pos hc]
      rw [e] at h
      obtain ⟨h1, h2⟩ := ren_map F t (numN m (-1 - c)).2 h
      have hv := h _ _ (ext_ren t _ _ _ (val_num m (-1 - c)))
      refine ⟨?_, fun x hx hx0 => ?_⟩
      · rw [e, List.map_cons, ← h1]
        simp only [reC, if_pos hc, numF, hv, Option.getD_some]
      · cases hx with
        | head => rw [hv]; rfl
        | tail _ hx => exact h2 x hx hx0
    · have e : renG numN m (c :: t) = (c :: (renG numN m t).1, (renG numN m t).2) := by simp only [renG, if_neg hc]
      rw [e] at h
      obtain ⟨h1, h2⟩ := ren_map F t m h
      refine ⟨?_, fun x hx hx0 => ?_⟩
      · rw [e, List.map_cons, ← h1]
        simp only [reC, if_neg hc]
      · cases hx with
        | head => exact absurd hx0 hc
        | tail _ hx => exact h2 x hx hx0

theorem can_map (F : Met) : ∀ (l : List (List Int)) (m : Met), Ext (canS m l) F → canG m l = (l.map fun t => t.map (reC (numF F))) ∧ ∀ t ∈ l, ∀ c ∈ t, c < 0 → (F.lookup (-1 - c)).isSome = true
  | [], _, _ => ⟨rfl, fun t ht => (by cases ht)⟩
  | t :: l, m, h => by
    obtain ⟨h1, h2⟩ := can_map F l (renG numN m t).2 h
    obtain ⟨h3, h4⟩ := ren_map F t m (fun n i hn => h n i (ext_can l _ n i hn))
    refine ⟨by rw [List.map_cons, ← h1, ← h3]; rfl, fun x hx => ?_⟩
    cases hx with
    | head => exact h4
    | tail _ hx => exact h2 x hx

/-- Unlike variables have unlike numbers, none below 0, none from the count on. -/
def Apt (m : Met) : Prop := (∀ a b i, m.lookup a = some i → m.lookup b = some i → a = b) ∧ ∀ p ∈ m, 0 ≤ p.2 ∧ p.2 < (m.length : Int)

theorem apt_num {m : Met} (h : Apt m) (n : Int) : Apt (numN m n).2 := by
  refine ⟨?_, (numN_in h.2).2⟩
  unfold numN
  cases hn : m.lookup n with
  | some j => exact h.1
  | none =>
    intro a b i ha hb
    rw [List.lookup_cons] at ha hb
    by_cases ea : a = n
    · by_cases eb : b = n
      · rw [ea, eb]
      · subst ea
        rw [show (b == a) = false by simpa using eb] at hb
        simp at ha
        have := h.2 _ (lookup_mem hb)
        simp only at this
        omega
    · rw [show (a == n) = false by simpa using ea] at ha
      by_cases eb : b = n
      · subst eb
        simp at hb
        have := h.2 _ (lookup_mem ha)
        simp only at this
        omega
      · rw [show (b == n) = false by simpa using eb] at hb
        exact h.1 a b i ha hb

theorem apt_ren : ∀ (t : List Int) (m : Met), Apt m → Apt (renG numN m t).2
  | [], _, h => h
  | c :: t, m, h => by
    unfold renG
    split
    · exact apt_ren t _ (apt_num h _)
    · exact apt_ren t m h

theorem apt_can : ∀ (l : List (List Int)) (m : Met), Apt m → Apt (canS m l)
  | [], _, h => h
  | t :: l, m, h => apt_can l _ (apt_ren t m h)

/-- Canon of what Canon numbered is the same. -/
theorem canL_again (l : List (List Int)) : canL (canL l) = canL l := by
  have hA : Apt (canS [] l) := apt_can l [] ⟨fun a b i h => (by cases h), fun p hp => (by cases hp)⟩
  obtain ⟨h1, h2⟩ := can_map (canS [] l) l [] (fun _ _ h => h)
  have h3 := canG_re (f := numF (canS [] l)) (S := fun n => ((canS [] l).lookup n).isSome = true) (fun a b ha hb e => by
    obtain ⟨i, hi⟩ := Option.isSome_iff_exists.1 ha
    obtain ⟨j, hj⟩ := Option.isSome_iff_exists.1 hb
    simp only [numF, hi, hj, Option.getD_some] at e
    subst e
    exact hA.1 a b i hi hj) (fun a ha => by
    obtain ⟨i, hi⟩ := Option.isSome_iff_exists.1 ha
    simp only [numF, hi, Option.getD_some]
    exact (hA.2 _ (lookup_mem hi)).1) l [] (fun p hp => (by cases hp)) h2
  unfold canL
  rw [h1]
  rw [h1] at h3
  exact h3

end Go.Proofs.YthjghdpiokpnfabDoor

/- Shift, and back. -/
namespace Go.Proofs.YthjghdpiokpnfabDoor
open Go.RowKit Go.Maps

theorem isVarB_iff2 {n : Int} : isVarB n = true ↔ 0 ≤ n ∧ n < 1048576 := isVarB_iff

theorem shift_cell {d c : Int} (h : c < 0 → isVarB (-1 - c + d) = true) : (if c < 0 then c - d else c) < 0 ↔ c < 0 := by
  by_cases hc : c < 0
  · have := isVarB_iff2.1 (h hc)
    rw [if_pos hc]
    omega
  · rw [if_neg hc]

theorem okShift_cons (d c : Int) (t : List Int) : okShift d (c :: t) = true ↔ (c < 0 → isVarB (-1 - c + d) = true) ∧ okShift d t = true := by
  unfold okShift
  rw [List.all_cons, Bool.and_eq_true]
  refine and_congr_left fun _ => ?_
  by_cases hc : c < 0
  · simp [hc]
  · simp [hc]

/-- What was shifted is shifted back just if all numbers were those of variables. -/
theorem shift_back (d : Int) : ∀ t : List Int, okShift d t = true → (okShift (-d) (t.map fun c => if c < 0 then c - d else c) = true ↔ ∀ c ∈ t, -1048576 ≤ c) ∧ ((t.map fun c => if c < 0 then c - d else c).map fun c => if c < 0 then c - -d else c) = t
  | [], _ => ⟨⟨fun _ c hc => (by cases hc), fun _ => rfl⟩, rfl⟩
  | c :: t, h => by
    obtain ⟨h1, h2⟩ := (okShift_cons d c t).1 h
    obtain ⟨h3, h4⟩ := shift_back d t h2
    have hs := shift_cell h1
    refine ⟨?_, ?_⟩
    · rw [List.map_cons, okShift_cons, h3, hs]
      refine ⟨fun ⟨k1, k2⟩ x hx => ?_, fun k => ⟨fun hc => ?_, fun x hx => k x (.tail _ hx)⟩⟩
      · cases hx with
        | head =>
          by_cases hc : c < 0
          · have := k1 hc
            rw [if_pos hc, isVarB_iff2] at this
            omega
          · omega
        | tail _ hx => exact k2 x hx
      · have := k c (.head _)
        rw [if_pos hc, isVarB_iff2]
        omega
    · rw [List.map_cons, List.map_cons, h4]
      congr 1
      by_cases hc : c < 0
      · rw [if_pos (hs.2 hc), if_pos hc]
        omega
      · rw [if_neg (fun h => hc (hs.1 h)), if_neg hc]

end Go.Proofs.YthjghdpiokpnfabDoor

/- Rows whose variables are moved, plainly. -/
namespace Go.Proofs.YthjghdpiokpnfabDoor
open Go.RowKit Go.Maps Go.BigFrame

def movL (d : Int) (t : List Int) : List Int := t.map fun c => if c < 0 then c - d else c

theorem mov_ok {d : Int} {t : List Int} (h : okShift d t = true) : shiftE d t = 0 ∧ shiftL d t = movL d t := by
  unfold shiftE shiftL
  rw [if_pos h, if_pos h]
  exact ⟨rfl, rfl⟩

theorem mov_no {d : Int} {t : List Int} (h : ¬ okShift d t = true) : shiftE d t = 40 := by
  unfold shiftE
  rw [if_neg h]

theorem mov_code {sig : List Sy} {d c : Int} (h : c < 0 → isVarB (-1 - c + d) = true) (hc : codeD sig c ≠ none) : codeD sig (if c < 0 then c - d else c) = codeD sig c := by
  by_cases h0 : c < 0
  · rw [if_pos h0]
    have h1 := isVarB_iff.1 (h h0)
    have h2 : ¬ c < -1048576 := fun h2 => hc (codeD_none (.inr h2))
    unfold codeD
    rw [if_neg (by omega), if_pos (by omega), if_neg (by omega), if_pos (by omega)]
  · rw [if_neg h0]

theorem mov_first {sig : List Sy} {d : Int} : ∀ (t : List Int) (m : Int) (i : Nat), okShift d t = true → (∀ c ∈ t, codeD sig c ≠ none) → firstT sig m i (movL d t) = firstT sig m i t
  | [], _, _, _, _ => rfl
  | c :: t, m, i, ho, hc => by
    have h1 : (c < 0 → isVarB (-1 - c + d) = true) ∧ okShift d t = true := by
      unfold okShift at ho ⊢
      rw [List.all_cons, Bool.and_eq_true] at ho
      refine ⟨fun h0 => ?_, ho.2⟩
      have := ho.1
      simpa [h0] using this
    have e : movL d (c :: t) = (if c < 0 then c - d else c) :: movL d t := rfl
    rw [e]
    unfold firstT
    rw [mov_code h1.1 (hc c (by simp))]
    cases codeD sig c with
    | none => rfl
    | some x =>
      simp only
      rw [mov_first t _ _ h1.2 (fun y hy => hc y (by simp [hy]))]

theorem first_codes {sig : List Sy} : ∀ (t : List Int) (m : Int) (i : Nat), firstT sig m i t = ((i : Int) + t.length, 0) → ∀ c ∈ t, codeD sig c ≠ none
  | [], _, _, _, c, hc => by simp at hc
  | a :: t, m, i, h, c, hc => by
    unfold firstT at h
    cases ha : codeD sig a with
    | none => rw [ha] at h; simp at h
    | some x =>
      rw [ha] at h
      simp only at h
      by_cases h0 : m + x = 0
      · rw [if_pos h0] at h
        have h2 := congrArg Prod.fst h
        simp only [List.length_cons] at h2
        have h3 : t.length = 0 := by omega
        obtain rfl := List.eq_nil_of_length_eq_zero h3
        rw [List.mem_singleton] at hc
        subst hc
        rw [ha]
        simp
      · rw [if_neg h0] at h
        rcases List.mem_cons.1 hc with rfl | hc
        · rw [ha]; simp
        · refine first_codes t (m + x) (i + 1) ?_ c hc
          rw [h]
          simp only [List.length_cons]
          congr 1
          push_cast
          omega

theorem mov_row {sig : List Sy} {d : Int} {t : List Int} (ho : okShift d t = true) (h : rowE sig t = 0) : rowE sig (movL d t) = 0 := by
  have h1 := first_right h []
  rw [List.append_nil] at h1
  have h2 := mov_first (sig := sig) t 1 0 ho (first_codes t 1 0 (by rw [h1]; simp))
  unfold rowE at h ⊢
  rw [h2]
  have h3 : (movL d t).length = t.length := by unfold movL; simp
  rw [h3]
  exact h

theorem mov_term {sig : List Sy} {d : Int} {t : List Int} (ho : okShift d t = true) (h : termE sig t = 0) : termE sig (movL d t) = 0 := by
  unfold termE at h ⊢
  by_cases hs : sigE sig = 0
  · rw [if_pos hs] at h ⊢
    exact mov_row ho h
  · rw [if_neg hs] at h
    exact absurd h hs

theorem mov_can {d : Int} {p q : List Int} (h1 : okShift d p = true) (h2 : okShift d q = true) : canL [movL d p, movL d q] = canL [p, q] := by
  refine canL_shift d [p, q] fun t ht c hc h0 => ?_
  have ho : okShift d t = true := by
    simp only [List.mem_cons, List.not_mem_nil, or_false] at ht
    rcases ht with rfl | rfl
    · exact h1
    · exact h2
  have h3 := List.all_eq_true.1 ho c hc
  have h4 : isVarB (-1 - c + d) = true := by simpa [h0] using h3
  exact (isVarB_iff.1 h4).1

end Go.Proofs.YthjghdpiokpnfabDoor
