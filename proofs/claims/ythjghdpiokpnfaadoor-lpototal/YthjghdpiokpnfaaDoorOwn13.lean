/- Texts of the proof, one behind the other. -/
import Derived.Test.YthjghdpiokpnfaaDoorOwn12
import Derived.Test.YthjghdpiokpnfaaDoorOwn4
import Derived.Test.YthjghdpiokpnfaaDoorOwn10
import Derived.Test.YthjghdpiokpnfaaDoorOwn11
import Derived.Test.YthjghdpiokpnfaaDoorOwn3
import Derived.Test.YthjghdpiokpnfaaDoorOwn8
import Derived.Deep.LoopGhost
/- What the law file's helpers do: same, lent, kept, spoil, three, which. -/
namespace Go.Proofs.YthjghdpiokpnfaaDoor
open Go.RowKit Go.Maps Go.BigFrame

theorem join_two (ty : TypeId) {w : World} {base : Nat} {x u : Value} {xs es : List Int} (ho : OwI w base x xs) (hs : Is w u es) (hb : base ≤ w.heap.size) (hl : (xs.length + es.length) * 8 ≤ 140737488355328) :
    ∃ v' w', (Builtin.append_ #[24, 24] ty #[x, u]).run Tryd.prog w = .ok v' w' ∧ OwI w' base v' (xs ++ es) ∧ w.grownBy w' x.ownBlock ∧ (v'.ownBlock = x.ownBlock ∨ v'.ownBlock = some w.heap.size) := by
  obtain ⟨i0, hi, hz0, hz1, hz2⟩ := info_parts info_int
  have hZ : ZI es := fun k x hk => by
    obtain ⟨ao, cap, rfl, _, _, hx⟩ := Row.flat hs
    obtain ⟨_, _, y, _, hy, h1, h2, _⟩ := hx k (List.getElem?_eq_some_iff.1 hk).1
    rw [hk] at hy
    cases hy
    exact ⟨h1, h2⟩
  have hZ2 : ZI (xs ++ es) := fun k y hk => by
    by_cases hkl : k < xs.length
    · rw [List.getElem?_append_left hkl] at hk
      exact ho.1 k y hk
    · rw [List.getElem?_append_right (by omega)] at hk
      exact hZ _ y hk
  obtain ⟨ao, cap, rfl, hc, hm, hx⟩ := hs
  by_cases h0 : es.length = 0
  · obtain rfl : es = [] := List.eq_nil_of_length_eq_zero h0
    obtain ⟨bo, bc, rfl, hbc, _⟩ := ho.shape
    refine ⟨_, w, run_append_nothing w 24 24 ty 3 i0 under_ints hi _ xs.length bc hbc _ ?_, by rw [List.append_nil]; exact ho, World.grownBy.refl _ _, .inl rfl⟩
    cases ao with
    | none => exact Src.ofNil w under_ints _
    | some a => exact Src.ofSlice w under_ints a 0 _ [] (by simp) (fun j u hj => (by simp at hj)) (fun u hu => (by simp at hu))
  · obtain ⟨g', off, rfl, hg, hcell⟩ := hx (by omega)
    obtain ⟨v', w', hr, h2, h3, _, h5⟩ := run_append_own_at (P := Tryd.prog) w base 24 ty 3 i0 _ 1 8 under_ints hi hz0 hz1 hz2 rfl (by decide) _ xs.length (xs.map I64) ho.2 ⟨g', off, none⟩ es.length cap (es.map I64) (by simp) (fun j u hj => by
      rw [List.getElem?_map] at hj
      cases hk : es[j]? with
      | none => rw [hk] at hj; simp at hj
      | some x =>
        rw [hk] at hj
        simp at hj
        subst hj
        rw [Addr.add_lit]
        have := (hcell j x hk).2.2
        rw [Nat.mul_one] at this
        exact this) (fun u hu => by obtain ⟨x, _, rfl⟩ := List.mem_map.1 hu; rfl) (by unfold maxLen; omega) (by omega) hb
    refine ⟨v', w', hr, ⟨hZ2, ?_⟩, h3, h5⟩
    rw [List.length_append, List.map_append]
    exact h2

theorem I64_one (xs : List Int) : ∀ u ∈ xs.map I64, u.oneCell' = true := fun u hu => by obtain ⟨x, _, rfl⟩ := List.mem_map.1 hu; rfl

theorem run_copy_ints {w : World} {base g n cap cap' : Nat} {ao : Option Addr} {zs xs : List Int} (ho : OwI w base (.slice (some ⟨g, 0, none⟩) n cap) zs) (hn : n = zs.length)
    (hs : Is w (.slice ao xs.length cap') xs) (hle : xs.length ≤ n) :
    ∃ w', (Builtin.copy_ #[24, 24] 3 #[.slice (some ⟨g, 0, none⟩) n cap, .slice ao xs.length cap']).run Tryd.prog w = .ok (goInt xs.length) w' ∧
      OwI w' base (.slice (some ⟨g, 0, none⟩) n cap) (xs ++ zs.drop xs.length) ∧ w.grownBy w' (some g) := by
  subst hn
  have hsz : (Tryd.prog.info? 3).map (·.size) = some 1 := by kernel_rfl
  by_cases h0 : xs.length = 0
  · obtain rfl : xs = [] := List.eq_nil_of_length_eq_zero h0
    have := run_copy_none (P := Tryd.prog) w 24 24 3 3 (some ⟨g, 0, none⟩) ao zs.length cap 0 cap' under_ints hsz (by simp)
    exact ⟨w, this, by simpa using ho, World.grownBy.refl _ _⟩
  · have hZ := hs.range
    obtain ⟨ao', c', hv, hc, hm, hx⟩ := hs
    simp only [Value.slice.injEq] at hv
    obtain ⟨rfl, _, rfl⟩ := hv
    obtain ⟨g', off, rfl, hg, hx⟩ := hx (by omega)
    rcases ho.2.2 with ⟨hv, _⟩ | ⟨g2, cap2, cur, hv, hb, hg2, hc2, hm2, hs2, ht2⟩
    · simp at hv
    · simp only [Value.slice.injEq, Option.some.injEq, Addr.mk.injEq, and_true, true_and] at hv
      obtain ⟨rfl, rfl⟩ := hv
      have hmin : xs.length = Nat.min xs.length zs.length := (Nat.min_eq_left hle).symm
      have hcur : zs.length ≤ cur.size := by omega
      have := run_copy_row (P := Tryd.prog) w 24 24 3 3 g 0 zs.length cap ⟨g', off, none⟩ xs.length cap' cur 3 (xs.map I64) under_ints hsz hg2
        (by simpa using hmin) (by
          intro j v hj
          simp only [List.getElem?_map, Option.map_eq_some_iff] at hj
          obtain ⟨x, hx1, rfl⟩ := hj
          rw [Addr.add_lit]
          have := (hx j x hx1).2.2
          rw [Nat.mul_one] at this
          exact this) (by simp; omega) (I64_one xs)
      refine ⟨_, by simpa using this, ⟨?_, ?_, .inr ⟨g, cap, _, by rw [List.length_append, List.length_drop, show xs.length + (zs.length - xs.length) = zs.length by omega], hb, setRow_heap w g cur _ 3 _ hg2, ?_, hm2, ?_, ?_⟩⟩, ?_⟩
      · intro k y hk
        by_cases hkl : k < xs.length
        · rw [List.getElem?_append_left hkl] at hk
          exact hZ k y hk
        · rw [List.getElem?_append_right (by omega), List.getElem?_drop] at hk
          exact ho.1 _ y hk
      · simp
      · simp; omega
      · simp; omega
      · have hl : (xs.map I64).length = xs.length := by simp
        rw [List.length_append, List.length_drop, show xs.length + (zs.length - xs.length) = zs.length by omega]
        simp only [List.map_append, List.map_drop, ← ht2, List.drop_take, Nat.mul_one]
        rw [List.take_append, hl, List.take_of_length_le (by simp; omega)]
      · exact ⟨rfl, rfl, rfl, by simp [World.setRow], fun k _ hk => setRow_other w g k _ (fun e => hk (by simp [e]))⟩

/-- A row and three marks behind it. -/
def marked (xs : List Int) : List Int := xs ++ [77, 77, 77]

theorem mark_step (xs R : List Int) (k : Nat) : (xs ++ List.replicate k 77) ++ 77 :: R = (xs ++ List.replicate (k + 1) 77) ++ R := by
  rw [List.replicate_succ']; simp

theorem get_midI {α : Type} {L : List α} {x : α} {R : List α} {k : Nat} (hk : L.length = k) : (L ++ x :: R)[k]? = some x := by subst hk; simp

theorem marked_lo {xs : List Int} {k : Nat} {x : Int} (h : xs[k]? = some x) : (marked xs)[k]? = some x := by
  have hk := (List.getElem?_eq_some_iff.1 h).1
  unfold marked
  rw [List.getElem?_append_left hk, h]

theorem marked_hi {xs : List Int} {k : Nat} (h1 : ¬ k < xs.length) (h2 : k < xs.length + 3) : (marked xs)[k]? = some 77 := by
  unfold marked
  rw [List.getElem?_append_right (by omega)]
  obtain ⟨j, rfl⟩ : ∃ j, k = xs.length + j := ⟨k - xs.length, by omega⟩
  rw [Nat.add_sub_cancel_left]
  match j, (by omega : j < 3) with
  | 0, _ => rfl
  | 1, _ => rfl
  | 2, _ => rfl

theorem cutI {w : World} {base g n cap : Nat} {xs ys : List Int} (h : OwI w base (.slice (some ⟨g, 0, none⟩) n cap) (xs ++ ys)) : Is w (.slice (some ⟨g, 0, none⟩) xs.length cap) xs := by
  obtain ⟨ao, cp, hv, hc, hm, hx⟩ := h.is
  simp only [Value.slice.injEq] at hv
  obtain ⟨rfl, _, rfl⟩ := hv
  rw [List.length_append] at hc
  refine ⟨_, cap, rfl, by omega, hm, fun h0 => ?_⟩
  obtain ⟨g', off, e, hg, hcell⟩ := hx (by rw [List.length_append]; omega)
  simp only [Option.some.injEq, Addr.mk.injEq, and_true] at e
  obtain ⟨rfl, rfl⟩ := e
  exact ⟨g, 0, rfl, hg, fun k x hk => hcell k x (by rw [List.getElem?_append_left (List.getElem?_eq_some_iff.1 hk).1]; exact hk)⟩

theorem grown_stepT {a b c : World} {r r' : Option Nat} (h : a.grownBy b r) (h' : b.grownBy c r') (hr : ∀ g, r' = some g → r = some g ∨ a.heap.size ≤ g) : a.grownBy c r :=
  ⟨h'.os.trans h.os, h'.tape.trans h.tape, h'.output.trans h.output, Nat.le_trans h.size h'.size, fun k hk hne => (h'.block k (Nat.lt_of_lt_of_le hk h.size) (fun e => by
    rcases hr k e.symm with h1 | h1
    · exact hne h1.symm
    · omega)).trans (h.block k hk hne)⟩

/-- Which of n places. -/
def whichN (c : Int) (n : Nat) : Nat := ((if c < 0 then -(c + 1) else c) % (n : Int)).toNat

theorem which_lt (c : Int) (n : Nat) (hn : 0 < n) : whichN c n < n := by
  unfold whichN
  have h1 := Int.emod_nonneg (if c < 0 then -(c + 1) else c) (b := (n : Int)) (by omega)
  have h2 := Int.emod_lt_of_pos (if c < 0 then -(c + 1) else c) (b := (n : Int)) (by omega)
  omega

end Go.Proofs.YthjghdpiokpnfaaDoor

/- The examples of layer 11; what its statements call of their own. -/
namespace Go.Proofs.YthjghdpiokpnfaaDoor
open Go.RowKit Go.Maps Go.BigFrame

theorem ex11_up {i j : Nat} : Up [(2, 1)] i j ↔ i = 2 ∧ j = 1 := by
  constructor
  · intro h
    refine h (fun i j => i = 2 ∧ j = 1) (fun i j hp => ?_) (fun i j k h1 h2 => ?_)
    · unfold PR at hp
      simp only [List.mem_singleton, Prod.mk.injEq] at hp
      omega
    · omega
  · rintro ⟨rfl, rfl⟩
    exact Up.base (by unfold PR; simp)

theorem ex11_no : ∀ i, ¬ Up [(2, 1)] i i := fun i h => by have := ex11_up.1 h; omega

theorem ex11_close : closeE 3 [(2, 1)] = 0 := closeE_ok (by decide) (by decide) (fun x hx => by simp only [List.mem_singleton] at hx; subst hx; decide) ex11_no

theorem ex11_ab : abB [(2, 1)] 2 1 = true := (abB_iff _ _ _).2 ⟨by decide, by decide, ex11_up.2 ⟨rfl, rfl⟩⟩

theorem LG.not2 {ps : List (Int × Int)} (hc : ∀ i, ¬ Up ps i i) {x y : Te} (h : LG (abB ps) x y) : ¬ LG (abB ps) y x := fun h2 => LG.no hc x (LG.trans (abB_tr ps) _ (Nat.le_refl _) h h2)

theorem ex11_1 : grB sumS [(2, 1)] [2, 1, -1, -2] [1, 2, -1, -2] = true := by
  refine (gr_yes (x := .a 2 [.a 1 [.v (-1)], .v (-2)]) (y := .a 1 [.a 2 [.v (-1), .v (-2)]]) (by kernel_rfl) (by kernel_rfl) (by kernel_rfl) (by kernel_rfl)).2 ?_
  refine .up ex11_ab (fun t ht => ?_)
  rw [List.mem_singleton] at ht
  subst ht
  refine LG.lex (p := []) (x := .a 1 [.v (-1)]) (y := .v (-1)) (q := [.v (-2)]) (r := [.v (-2)]) (.part (by simp)) (fun t ht => ?_)
  simp only [List.nil_append, List.mem_cons, List.not_mem_nil, or_false] at ht
  rcases ht with rfl | rfl
  · exact .down (s := .a 1 [.v (-1)]) (by simp) (.part (by simp))
  · exact .part (by simp)

theorem ex11_2 : grB sumS [(2, 1)] [1, 2, -1, -2] [2, 1, -1, -2] = false := by
  have h1 := (gr_yes (sig := sumS) (ps := [(2, 1)]) (s := [2, 1, -1, -2]) (t := [1, 2, -1, -2]) (x := .a 2 [.a 1 [.v (-1)], .v (-2)]) (y := .a 1 [.a 2 [.v (-1), .v (-2)]]) (by kernel_rfl) (by kernel_rfl) (by kernel_rfl) (by kernel_rfl)).1 ex11_1
  have h2 := gr_yes (sig := sumS) (ps := [(2, 1)]) (s := [1, 2, -1, -2]) (t := [2, 1, -1, -2]) (x := .a 1 [.a 2 [.v (-1), .v (-2)]]) (y := .a 2 [.a 1 [.v (-1)], .v (-2)]) (by kernel_rfl) (by kernel_rfl) (by kernel_rfl) (by kernel_rfl)
  cases h : grB sumS [(2, 1)] [1, 2, -1, -2] [2, 1, -1, -2] with
  | false => rfl
  | true => exact absurd (h2.1 h) (LG.not2 ex11_no h1)

theorem ex11_3 : grB sumS [(2, 1)] [2, 1, 0, 0] [2, 0, 1, 0] = true := by
  refine (gr_yes (x := .a 2 [.a 1 [.a 0 []], .a 0 []]) (y := .a 2 [.a 0 [], .a 1 [.a 0 []]]) (by kernel_rfl) (by kernel_rfl) (by kernel_rfl) (by kernel_rfl)).2 ?_
  refine LG.lex (p := []) (x := .a 1 [.a 0 []]) (y := .a 0 []) (q := [.a 0 []]) (r := [.a 1 [.a 0 []]]) (.part (by simp)) (fun t ht => ?_)
  simp only [List.nil_append, List.mem_cons, List.not_mem_nil, or_false] at ht
  rcases ht with rfl | rfl
  · exact .part (by simp)
  · exact .part (by simp)

theorem ex11_4 : grB sumS [(2, 1)] [1, -1] [-2] = false := by
  have h2 := gr_yes (sig := sumS) (ps := [(2, 1)]) (s := [1, -1]) (t := [-2]) (x := .a 1 [.v (-1)]) (y := .v (-2)) (by kernel_rfl) (by kernel_rfl) (by kernel_rfl) (by kernel_rfl)
  cases h : grB sumS [(2, 1)] [1, -1] [-2] with
  | false => rfl
  | true =>
    rcases (LG.step (LG.no ex11_no) (abB_ir ex11_no)).1 (h2.1 h) with ⟨z, hm, h4 | h4⟩ | ⟨g, ts, e, _⟩
    · rw [List.mem_singleton] at hm
      subst hm
      simp at h4
    · rw [List.mem_singleton] at hm
      subst hm
      exact absurd h4 LG.var
    · cases e

theorem ex11_5 : orI sumS [(2, 1)] [1, -1] [2, -1, -1] = -1 := by
  have h1 := gr_yes (sig := sumS) (ps := [(2, 1)]) (s := [2, -1, -1]) (t := [1, -1]) (x := .a 2 [.v (-1), .v (-1)]) (y := .a 1 [.v (-1)]) (by kernel_rfl) (by kernel_rfl) (by kernel_rfl) (by kernel_rfl)
  have h2 := gr_yes (sig := sumS) (ps := [(2, 1)]) (s := [1, -1]) (t := [2, -1, -1]) (x := .a 1 [.v (-1)]) (y := .a 2 [.v (-1), .v (-1)]) (by kernel_rfl) (by kernel_rfl) (by kernel_rfl) (by kernel_rfl)
  have h3 : LG (abB [(2, 1)]) (.a 2 [.v (-1), .v (-1)]) (.a 1 [.v (-1)]) := .up ex11_ab (fun t ht => by rw [List.mem_singleton] at ht; subst ht; exact .part (by simp))
  unfold orI
  rw [if_neg (fun h => LG.not2 ex11_no h3 (h2.1 h)), if_pos (h1.2 h3)]

set_option maxRecDepth 100000 in
theorem three11_any (w : World) : Calls Tryd.prog 21 #[] w fun e w' => ∃ v', e = .returned v' ∧ Sg w' v' sumS ∧ Below w.heap.size w w' := by
  go_enter Tryd.func21, Tryd.ntmps21
  go_wp2
  go_ret
  refine ⟨_, rfl, sg_lit (p := sumS) (by simp) (by decide) ⟨⟨by decide, by decide, by decide, cell_new rfl, cell_new rfl⟩, ⟨by decide, by decide, by decide, cell_new rfl, cell_new rfl⟩, ⟨by decide, by decide, by decide, cell_new rfl, cell_new rfl⟩, trivial⟩, below_alloc _⟩

set_option maxRecDepth 100000 in
theorem l11_1 (w : World) (sv pv : Value) (hs : Sg w sv sumS) (hp : Pc w pv [(2, 1)]) (hT : Tabs w) : Calls Tryd.prog 11 #[sv, pv, .slice (some ⟨w.heap.size, 0, none⟩) 4 4, .slice (some ⟨w.heap.size + 1, 0, none⟩) 4 4] ((w.alloc (Obj.cells #[Value.int IntKind.i64 2, Value.int IntKind.i64 1, Value.int IntKind.i64 (-1), Value.int IntKind.i64 (-2)] 3)).alloc (Obj.cells #[Value.int IntKind.i64 1, Value.int IntKind.i64 2, Value.int IntKind.i64 (-1), Value.int IntKind.i64 (-2)] 3))
    fun e w' => e = .returned (.bool true) ∧ Below w.heap.size w w' := by
  have hB : Below w.heap.size w ((w.alloc (Obj.cells #[Value.int IntKind.i64 2, Value.int IntKind.i64 1, Value.int IntKind.i64 (-1), Value.int IntKind.i64 (-2)] 3)).alloc (Obj.cells #[Value.int IntKind.i64 1, Value.int IntKind.i64 2, Value.int IntKind.i64 (-1), Value.int IntKind.i64 (-2)] 3)) := (below_step (below_alloc _) (below_alloc _))
  obtain ⟨W, hW⟩ : ∃ W, W = ((w.alloc (Obj.cells #[Value.int IntKind.i64 2, Value.int IntKind.i64 1, Value.int IntKind.i64 (-1), Value.int IntKind.i64 (-2)] 3)).alloc (Obj.cells #[Value.int IntKind.i64 1, Value.int IntKind.i64 2, Value.int IntKind.i64 (-1), Value.int IntKind.i64 (-2)] 3)) := ⟨_, rfl⟩
  have hsz : W.heap.size = w.heap.size + 2 := by rw [hW]; simp
  have i1 : Is W (.slice (some ⟨w.heap.size, 0, none⟩) 4 4) [2, 1, -1, -2] := by
    refine is_lit (p := [2, 1, -1, -2]) (by omega) (by decide) ⟨ei (by omega) (by omega) ?_, ei (by omega) (by omega) ?_, ei (by omega) (by omega) ?_, ei (by omega) (by omega) ?_, trivial⟩ <;> (rw [hW]; repeat (first | (refine cell_newg ?_ rfl; simp; done) | refine cell_old ?_))
  have i2 : Is W (.slice (some ⟨w.heap.size + 1, 0, none⟩) 4 4) [1, 2, -1, -2] := by
    refine is_lit (p := [1, 2, -1, -2]) (by omega) (by decide) ⟨ei (by omega) (by omega) ?_, ei (by omega) (by omega) ?_, ei (by omega) (by omega) ?_, ei (by omega) (by omega) ?_, trivial⟩ <;> (rw [hW]; repeat (first | (refine cell_newg ?_ rfl; simp; done) | refine cell_old ?_))
  rw [← hW] at hB ⊢
  refine (lpoGreater_any sv pv _ _ sumS [(2, 1)] [2, 1, -1, -2] [1, 2, -1, -2] W (hs.kp (Kp.of_below hB)) (hp.later hB) i1 i2 (hT.below hB) ex11_no).mono ?_
  rintro e w' ⟨rfl, hb⟩
  exact ⟨by rw [ex11_1], below_step hB hb⟩

set_option maxRecDepth 100000 in
theorem l11_2 (w : World) (sv pv : Value) (hs : Sg w sv sumS) (hp : Pc w pv [(2, 1)]) (hT : Tabs w) : Calls Tryd.prog 11 #[sv, pv, .slice (some ⟨w.heap.size, 0, none⟩) 4 4, .slice (some ⟨w.heap.size + 1, 0, none⟩) 4 4] ((w.alloc (Obj.cells #[Value.int IntKind.i64 1, Value.int IntKind.i64 2, Value.int IntKind.i64 (-1), Value.int IntKind.i64 (-2)] 3)).alloc (Obj.cells #[Value.int IntKind.i64 2, Value.int IntKind.i64 1, Value.int IntKind.i64 (-1), Value.int IntKind.i64 (-2)] 3))
    fun e w' => e = .returned (.bool false) ∧ Below w.heap.size w w' := by
  have hB : Below w.heap.size w ((w.alloc (Obj.cells #[Value.int IntKind.i64 1, Value.int IntKind.i64 2, Value.int IntKind.i64 (-1), Value.int IntKind.i64 (-2)] 3)).alloc (Obj.cells #[Value.int IntKind.i64 2, Value.int IntKind.i64 1, Value.int IntKind.i64 (-1), Value.int IntKind.i64 (-2)] 3)) := (below_step (below_alloc _) (below_alloc _))
  obtain ⟨W, hW⟩ : ∃ W, W = ((w.alloc (Obj.cells #[Value.int IntKind.i64 1, Value.int IntKind.i64 2, Value.int IntKind.i64 (-1), Value.int IntKind.i64 (-2)] 3)).alloc (Obj.cells #[Value.int IntKind.i64 2, Value.int IntKind.i64 1, Value.int IntKind.i64 (-1), Value.int IntKind.i64 (-2)] 3)) := ⟨_, rfl⟩
  have hsz : W.heap.size = w.heap.size + 2 := by rw [hW]; simp
  have i1 : Is W (.slice (some ⟨w.heap.size, 0, none⟩) 4 4) [1, 2, -1, -2] := by
    refine is_lit (p := [1, 2, -1, -2]) (by omega) (by decide) ⟨ei (by omega) (by omega) ?_, ei (by omega) (by omega) ?_, ei (by omega) (by omega) ?_, ei (by omega) (by omega) ?_, trivial⟩ <;> (rw [hW]; repeat (first | (refine cell_newg ?_ rfl; simp; done) | refine cell_old ?_))
  have i2 : Is W (.slice (some ⟨w.heap.size + 1, 0, none⟩) 4 4) [2, 1, -1, -2] := by
    refine is_lit (p := [2, 1, -1, -2]) (by omega) (by decide) ⟨ei (by omega) (by omega) ?_, ei (by omega) (by omega) ?_, ei (by omega) (by omega) ?_, ei (by omega) (by omega) ?_, trivial⟩ <;> (rw [hW]; repeat (first | (refine cell_newg ?_ rfl; simp; done) | refine cell_old ?_))
  rw [← hW] at hB ⊢
  refine (lpoGreater_any sv pv _ _ sumS [(2, 1)] [1, 2, -1, -2] [2, 1, -1, -2] W (hs.kp (Kp.of_below hB)) (hp.later hB) i1 i2 (hT.below hB) ex11_no).mono ?_
  rintro e w' ⟨rfl, hb⟩
  exact ⟨by rw [ex11_2], below_step hB hb⟩

set_option maxRecDepth 100000 in
theorem l11_3 (w : World) (sv pv : Value) (hs : Sg w sv sumS) (hp : Pc w pv [(2, 1)]) (hT : Tabs w) : Calls Tryd.prog 11 #[sv, pv, .slice (some ⟨w.heap.size, 0, none⟩) 4 4, .slice (some ⟨w.heap.size + 1, 0, none⟩) 4 4] ((w.alloc (Obj.cells #[Value.int IntKind.i64 2, Value.int IntKind.i64 1, Value.int IntKind.i64 0, Value.int IntKind.i64 0] 3)).alloc (Obj.cells #[Value.int IntKind.i64 2, Value.int IntKind.i64 0, Value.int IntKind.i64 1, Value.int IntKind.i64 0] 3))
    fun e w' => e = .returned (.bool true) ∧ Below w.heap.size w w' := by
  have hB : Below w.heap.size w ((w.alloc (Obj.cells #[Value.int IntKind.i64 2, Value.int IntKind.i64 1, Value.int IntKind.i64 0, Value.int IntKind.i64 0] 3)).alloc (Obj.cells #[Value.int IntKind.i64 2, Value.int IntKind.i64 0, Value.int IntKind.i64 1, Value.int IntKind.i64 0] 3)) := (below_step (below_alloc _) (below_alloc _))
  obtain ⟨W, hW⟩ : ∃ W, W = ((w.alloc (Obj.cells #[Value.int IntKind.i64 2, Value.int IntKind.i64 1, Value.int IntKind.i64 0, Value.int IntKind.i64 0] 3)).alloc (Obj.cells #[Value.int IntKind.i64 2, Value.int IntKind.i64 0, Value.int IntKind.i64 1, Value.int IntKind.i64 0] 3)) := ⟨_, rfl⟩
  have hsz : W.heap.size = w.heap.size + 2 := by rw [hW]; simp
  have i1 : Is W (.slice (some ⟨w.heap.size, 0, none⟩) 4 4) [2, 1, 0, 0] := by
    refine is_lit (p := [2, 1, 0, 0]) (by omega) (by decide) ⟨ei (by omega) (by omega) ?_, ei (by omega) (by omega) ?_, ei (by omega) (by omega) ?_, ei (by omega) (by omega) ?_, trivial⟩ <;> (rw [hW]; repeat (first | (refine cell_newg ?_ rfl; simp; done) | refine cell_old ?_))
  have i2 : Is W (.slice (some ⟨w.heap.size + 1, 0, none⟩) 4 4) [2, 0, 1, 0] := by
    refine is_lit (p := [2, 0, 1, 0]) (by omega) (by decide) ⟨ei (by omega) (by omega) ?_, ei (by omega) (by omega) ?_, ei (by omega) (by omega) ?_, ei (by omega) (by omega) ?_, trivial⟩ <;> (rw [hW]; repeat (first | (refine cell_newg ?_ rfl; simp; done) | refine cell_old ?_))
  rw [← hW] at hB ⊢
  refine (lpoGreater_any sv pv _ _ sumS [(2, 1)] [2, 1, 0, 0] [2, 0, 1, 0] W (hs.kp (Kp.of_below hB)) (hp.later hB) i1 i2 (hT.below hB) ex11_no).mono ?_
  rintro e w' ⟨rfl, hb⟩
  exact ⟨by rw [ex11_3], below_step hB hb⟩

set_option maxRecDepth 100000 in
theorem l11_4 (w : World) (sv pv : Value) (hs : Sg w sv sumS) (hp : Pc w pv [(2, 1)]) (hT : Tabs w) : Calls Tryd.prog 11 #[sv, pv, .slice (some ⟨w.heap.size, 0, none⟩) 2 2, .slice (some ⟨w.heap.size + 1, 0, none⟩) 1 1] ((w.alloc (Obj.cells #[Value.int IntKind.i64 1, Value.int IntKind.i64 (-1)] 3)).alloc (Obj.cells #[Value.int IntKind.i64 (-2)] 3))
    fun e w' => e = .returned (.bool false) ∧ Below w.heap.size w w' := by
  have hB : Below w.heap.size w ((w.alloc (Obj.cells #[Value.int IntKind.i64 1, Value.int IntKind.i64 (-1)] 3)).alloc (Obj.cells #[Value.int IntKind.i64 (-2)] 3)) := (below_step (below_alloc _) (below_alloc _))
  obtain ⟨W, hW⟩ : ∃ W, W = ((w.alloc (Obj.cells #[Value.int IntKind.i64 1, Value.int IntKind.i64 (-1)] 3)).alloc (Obj.cells #[Value.int IntKind.i64 (-2)] 3)) := ⟨_, rfl⟩
  have hsz : W.heap.size = w.heap.size + 2 := by rw [hW]; simp
  have i1 : Is W (.slice (some ⟨w.heap.size, 0, none⟩) 2 2) [1, -1] := by
    refine is_lit (p := [1, -1]) (by omega) (by decide) ⟨ei (by omega) (by omega) ?_, ei (by omega) (by omega) ?_, trivial⟩ <;> (rw [hW]; repeat (first | (refine cell_newg ?_ rfl; simp; done) | refine cell_old ?_))
  have i2 : Is W (.slice (some ⟨w.heap.size + 1, 0, none⟩) 1 1) [-2] := by
    refine is_lit (p := [-2]) (by omega) (by decide) ⟨ei (by omega) (by omega) ?_, trivial⟩ <;> (rw [hW]; repeat (first | (refine cell_newg ?_ rfl; simp; done) | refine cell_old ?_))
  rw [← hW] at hB ⊢
  refine (lpoGreater_any sv pv _ _ sumS [(2, 1)] [1, -1] [-2] W (hs.kp (Kp.of_below hB)) (hp.later hB) i1 i2 (hT.below hB) ex11_no).mono ?_
  rintro e w' ⟨rfl, hb⟩
  exact ⟨by rw [ex11_4], below_step hB hb⟩

set_option maxRecDepth 100000 in
theorem l11_5 (w : World) (sv pv : Value) (hs : Sg w sv sumS) (hp : Pc w pv [(2, 1)]) (hT : Tabs w) : Calls Tryd.prog 13 #[sv, pv, .agg #[.slice (some ⟨w.heap.size, 0, none⟩) 2 2, .slice (some ⟨w.heap.size + 1, 0, none⟩) 3 3]] ((w.alloc (Obj.cells #[Value.int IntKind.i64 1, Value.int IntKind.i64 (-1)] 3)).alloc (Obj.cells #[Value.int IntKind.i64 2, Value.int IntKind.i64 (-1), Value.int IntKind.i64 (-1)] 3))
    fun e w' => e = .returned (.int .i64 (-1)) ∧ Below w.heap.size w w' := by
  have hB : Below w.heap.size w ((w.alloc (Obj.cells #[Value.int IntKind.i64 1, Value.int IntKind.i64 (-1)] 3)).alloc (Obj.cells #[Value.int IntKind.i64 2, Value.int IntKind.i64 (-1), Value.int IntKind.i64 (-1)] 3)) := (below_step (below_alloc _) (below_alloc _))
  obtain ⟨W, hW⟩ : ∃ W, W = ((w.alloc (Obj.cells #[Value.int IntKind.i64 1, Value.int IntKind.i64 (-1)] 3)).alloc (Obj.cells #[Value.int IntKind.i64 2, Value.int IntKind.i64 (-1), Value.int IntKind.i64 (-1)] 3)) := ⟨_, rfl⟩
  have hsz : W.heap.size = w.heap.size + 2 := by rw [hW]; simp
  have i1 : Is W (.slice (some ⟨w.heap.size, 0, none⟩) 2 2) [1, -1] := by
    refine is_lit (p := [1, -1]) (by omega) (by decide) ⟨ei (by omega) (by omega) ?_, ei (by omega) (by omega) ?_, trivial⟩ <;> (rw [hW]; repeat (first | (refine cell_newg ?_ rfl; simp; done) | refine cell_old ?_))
  have i2 : Is W (.slice (some ⟨w.heap.size + 1, 0, none⟩) 3 3) [2, -1, -1] := by
    refine is_lit (p := [2, -1, -1]) (by omega) (by decide) ⟨ei (by omega) (by omega) ?_, ei (by omega) (by omega) ?_, ei (by omega) (by omega) ?_, trivial⟩ <;> (rw [hW]; repeat (first | (refine cell_newg ?_ rfl; simp; done) | refine cell_old ?_))
  rw [← hW] at hB ⊢
  refine (lpoOrient_any sv pv _ _ sumS [(2, 1)] [1, -1] [2, -1, -1] W (hs.kp (Kp.of_below hB)) (hp.later hB) i1 i2 (hT.below hB) ex11_no).mono ?_
  rintro e w' ⟨rfl, hb⟩
  exact ⟨by rw [ex11_5], below_step hB hb⟩

set_option maxRecDepth 100000 in
set_option maxHeartbeats 1600000 in
theorem shown11_any (w : World) (hT : Tabs w) : Calls Tryd.prog 9 #[] w fun e w' => e = .returned (.bool true) ∧ Below w.heap.size w w' := by
  have HT := hid hT
  clear hT
  go_enter Tryd.func9, Tryd.ntmps9
  go_wp2_with fail
  refine (three11_any w).mono ?_
  rintro e w1 ⟨sv, rfl, hs, hb⟩
  have HS := hid hs
  have HB := hid hb
  clear hs hb
  have HBa := hid (below_step HB.out (below_alloc (w := w1) (.cells #[.int .i64 2, .int .i64 1] 54)))
  have HSa := hid (HS.out.kp (Kp.of_below (below_alloc (w := w1) (.cells #[.int .i64 2, .int .i64 1] 54))))
  have HPr := hid (prs_one w1 2 1 (by decide) (by decide))
  go_wp2_with fail
  refine (close_any 3 _ [(2, 1)] _ HPr.out).mono ?_
  intro e w2 hc
  obtain ⟨hb2, gp, rfl, hp⟩ := hc.ok ex11_close
  have HP := hid hp
  have HB2 := hid (below_step HBa.out hb2)
  have HS2 := hid (HSa.out.kp (Kp.of_below hb2))
  clear hc hb2 hp HBa HSa HPr HS HB
  go_wp2_with fail
  refine (l11_1 w2 sv _ HS2.out HP.out (HT.out.below HB2.out)).mono ?_
  rintro e w3 ⟨rfl, hb⟩
  have HBn := hid (below_step HB2.out hb)
  have HSn := hid (HS2.out.kp (Kp.of_below hb))
  have HPn := hid (HP.out.later hb)
  clear hb HB2 HS2 HP
  have HB2 := HBn
  have HS2 := HSn
  have HP := HPn
  clear HBn HSn HPn
  go_wp2_with fail
  refine (l11_2 w3 sv _ HS2.out HP.out (HT.out.below HB2.out)).mono ?_
  rintro e w4 ⟨rfl, hb⟩
  have HBn := hid (below_step HB2.out hb)
  have HSn := hid (HS2.out.kp (Kp.of_below hb))
  have HPn := hid (HP.out.later hb)
  clear hb HB2 HS2 HP
  have HB2 := HBn
  have HS2 := HSn
  have HP := HPn
  clear HBn HSn HPn
  go_wp2_with fail
  refine (l11_3 w4 sv _ HS2.out HP.out (HT.out.below HB2.out)).mono ?_
  rintro e w5 ⟨rfl, hb⟩
  have HBn := hid (below_step HB2.out hb)
  have HSn := hid (HS2.out.kp (Kp.of_below hb))
  have HPn := hid (HP.out.later hb)
  clear hb HB2 HS2 HP
  have HB2 := HBn
  have HS2 := HSn
  have HP := HPn
  clear HBn HSn HPn
  go_wp2_with fail
  refine (l11_4 w5 sv _ HS2.out HP.out (HT.out.below HB2.out)).mono ?_
  rintro e w6 ⟨rfl, hb⟩
  have HBn := hid (below_step HB2.out hb)
  have HSn := hid (HS2.out.kp (Kp.of_below hb))
  have HPn := hid (HP.out.later hb)
  clear hb HB2 HS2 HP
  have HB2 := HBn
  have HS2 := HSn
  have HP := HPn
  clear HBn HSn HPn
  go_wp2_with fail
  refine (l11_5 w6 sv _ HS2.out HP.out (HT.out.below HB2.out)).mono ?_
  rintro e w7 ⟨rfl, hb⟩
  have HBn := hid (below_step HB2.out hb)
  have HSn := hid (HS2.out.kp (Kp.of_below hb))
  have HPn := hid (HP.out.later hb)
  clear hb HB2 HS2 HP
  have HB2 := HBn
  have HS2 := HSn
  have HP := HPn
  clear HBn HSn HPn
  go_wp2
  go_ret
  exact ⟨rfl, HB2.out⟩

/-- What both answers. -/
def BothO (n : Int) (ps : List (Int × Int)) (w : World) (e : Ending) (w' : World) : Prop :=
  Below w.heap.size w w' ∧ ((closeE n ps = 0 ∧ ∃ g h, e = .returned (.tuple #[.pointer (some ⟨g, 0, none⟩), .pointer (some ⟨h, 0, none⟩), .bool true]) ∧ Pc w' (.pointer (some ⟨g, 0, none⟩)) ps ∧ Rc w' (.pointer (some ⟨h, 0, none⟩)) ps) ∨ (closeE n ps ≠ 0 ∧ e = .returned (.tuple #[.pointer none, .pointer none, .bool true])))

set_option maxRecDepth 100000 in
set_option maxHeartbeats 1600000 in
theorem both11_any (sv v : Value) (sig : List Sy) (ps : List (Int × Int)) (w : World) (hs : Sg w sv sig) (hp : Prs w v ps) :
    Calls Tryd.prog 10 #[sv, v] w (BothO sig.length ps w) := by
  obtain ⟨so, sc, rfl, hs1, hs2, _⟩ := Row.flat hs
  unfold maxLen at hs2
  have HP := hid hp
  clear hs hp
  go_enter Tryd.func10, Tryd.ntmps10
  go_wp2_with fail
  refine (close_any sig.length v ps w HP.out).mono ?_
  intro e w1 hc
  have HB1 := hid hc.1
  by_cases h0 : closeE sig.length ps = 0
  · obtain ⟨_, g, rfl, hp1⟩ := hc.ok h0
    have H0 := hid h0
    have HP1 := hid hp1
    clear hc hp1 h0
    go_wp2_with fail
    refine (refClose_any sig.length v ps w1 (HP.out.later HB1.out)).mono ?_
    intro e w2 hc2
    obtain ⟨hb2, g2, rfl, hq⟩ := hc2.ok H0.out
    have HB2 := hid (below_step HB1.out hb2)
    have HP2 := hid (HP1.out.later hb2)
    have HQ2 := hid hq
    clear hc2 hb2 hq
    go_wp2
    go_ret3
    exact ⟨HB2.out, .inl ⟨H0.out, g, g2, rfl, HP2.out, HQ2.out⟩⟩
  · obtain ⟨_, rfl⟩ := hc.err rfl h0
    have H0 := hid h0
    have HR := hid (fun (e : Ending) (w' : World) (h : RefO sig.length ps w1 e w') => h.err rfl h0)
    clear hc
    obtain ⟨E, hE⟩ : ∃ E, E = closeE sig.length ps := ⟨_, rfl⟩
    rw [← hE] at HR h0 ⊢
    clear hE
    have hEb : (E == 0) = false := by simpa using h0
    have hEn : (E != 0) = true := by simpa using h0
    go_wp2_with fail
    refine (refClose_any sig.length v ps w1 (HP.out.later HB1.out)).mono ?_
    intro e w2 hc2
    obtain ⟨hb2, rfl⟩ := HR.out e w2 hc2
    have HB2 := hid (below_step HB1.out hb2)
    clear hc2 hb2
    go_wp2
    go_ret3
    exact ⟨HB2.out, .inr ⟨H0.out, rfl⟩⟩

set_option maxRecDepth 100000 in
set_option maxHeartbeats 800000 in
theorem term11_any (sv v : Value) (sig : List Sy) (t : List Int) (w : World) (hs : Sg w sv sig) (h : Is w v t) (hl : t.length * 8 ≤ 140737488351232) :
    Calls Tryd.prog 15 #[sv, v] w fun e w' => e = .returned (.bool (mayB sig t)) ∧ Below w.heap.size w w' := by
  obtain ⟨ao, cap, rfl, hao, hca, _⟩ := h.flatI
  have HS := hid hs
  have HI := hid h
  clear hs h
  go_enter Tryd.func15, Tryd.ntmps15
  go_wp2_with fail
  refine (refCheck_any sv _ sig t w HS.out HI.out hl).mono ?_
  rintro e w1 ⟨rfl, hb1⟩
  have HB1 := hid hb1
  clear hb1
  have HD : Hid (mayB sig t = (decide (t.length ≤ 512) && decide (termE sig t = 0))) := rfl
  obtain ⟨E, hE⟩ : ∃ E, E = termE sig t := ⟨_, rfl⟩
  rw [← hE] at HD ⊢
  clear hE
  by_cases h0 : E = 0
  · subst h0
    by_cases hl5 : t.length ≤ 512
    · have hd : decide ((t.length : Int) ≤ 512) = true := decide_eq_true (by omega)
      go_wp2
      go_ret
      exact ⟨by rw [HD.out, decide_eq_true hl5]; rfl, HB1.out⟩
    · have hd : decide ((t.length : Int) ≤ 512) = false := decide_eq_false (by omega)
      have hl2 : ¬ ((t.length : Int) ≤ 512) := by omega
      go_wp2
      go_ret
      exact ⟨by rw [HD.out, decide_eq_false hl5]; rfl, HB1.out⟩
  · have heb : (E == 0) = false := by simpa using h0
    go_wp2
    go_ret
    exact ⟨by rw [HD.out, decide_eq_false h0, Bool.and_false]; rfl, HB1.out⟩

end Go.Proofs.YthjghdpiokpnfaaDoor

/- The document's End and place walked. -/
namespace Go.Proofs.YthjghdpiokpnfaaDoor
open Go.RowKit Go.Maps Go.BigFrame

theorem codeD_neg {sig : List Sy} {c e : Int} (h : codeD sig c = some e) (hc : c < 0) : e = -1 := by
  unfold codeD at h
  split at h
  · cases h
  · first
    | (rw [if_pos hc] at h; cases h; rfl)
    | (cases h; rfl)

theorem codeD_get {sig : List Sy} {c : Nat} {e : Int} (h : codeD sig (c : Int) = some e) : ∃ s, sig[c]? = some s ∧ e = s.2 - 1 := by
  unfold codeD at h
  rw [if_neg (by omega), if_neg (by omega), Int.toNat_natCast] at h
  cases hs : sig[c]? with
  | none => rw [hs] at h; cases h
  | some s =>
    rw [hs] at h
    cases h
    exact ⟨s, rfl, rfl⟩

set_option maxRecDepth 100000 in
set_option maxHeartbeats 1600000 in
theorem refEnd_any (sv v : Value) (sig : List Sy) (t : List Int) (k n : Nat) (w : World) (hs : Sg w sv sig) (h : Is w v t) (ha : ArOk sig) (hb : t.length * 8 ≤ 140737488351232) (hn : firstT sig 1 0 (t.drop k) = ((n : Int), 0)) :
    Calls Tryd.prog 16 #[sv, v, .int .i64 k] w fun e w' => e = .returned (.int .i64 ((k + n : Nat) : Int)) ∧ w' = w := by
  obtain ⟨so, sc, rfl, hso, hsc, _⟩ := Row.flat hs
  obtain ⟨ao, cap, rfl, hao, hca, q0⟩ := Row.flat h
  unfold maxLen at hca hsc
  have HS := hid hs
  have HT := hid h
  have HA := hid ha
  have HN := hid hn
  have hkl : k < t.length := by
    by_cases hk : k < t.length
    · exact hk
    · rw [List.drop_of_length_le (by omega)] at hn
      simp [firstT] at hn
  clear hs h q0 ha hn
  go_enter Tryd.func16, Tryd.ntmps16
  go_wp2
  go_loopw [2, 7] (fun a x wr => ∃ (j : Nat) (m : Int), a = .int .i64 ((k + j : Nat) : Int) ∧ x = .int .i64 m ∧ k + j ≤ t.length ∧ ((0 < m ∧ firstT sig m j (t.drop (k + j)) = ((n : Int), 0)) ∨ (m = 0 ∧ j = n)) ∧ m ≤ 1 + 1000 * (j : Int) ∧ wr = w) (fun a _ _ => t.length + 1 - (intOf a).toNat)
  case atStart => exact ⟨0, 1, rfl, rfl, by omega, .inl ⟨by omega, HN.out⟩, by omega, rfl⟩
  case round =>
    obtain ⟨j, m, rfl, rfl, hkj, hft, hm2, hw⟩ := hrel
    have hw8 := hw.symm
    subst hw8
    clear hw HN
    rcases hft with ⟨hm0, hft⟩ | ⟨rfl, rfl⟩
    · have hlt : k + j < t.length := by
        by_cases hk : k + j < t.length
        · exact hk
        · rw [List.drop_of_length_le (by omega)] at hft
          simp [firstT] at hft
      obtain ⟨g, off, c, rfl, hx1, hx2, hx3, hx4⟩ := HT.out.at hlt
      rw [drop_get hx1, firstT_cons] at hft
      cases hcd : codeD sig c with
      | none => rw [hcd] at hft; simp at hft
      | some e =>
        have hge := codeD_ge HA.out hcd
        have HD : Hid ((0 < m + e ∧ firstT sig (m + e) (j + 1) (t.drop (k + (j + 1))) = ((n : Int), 0)) ∨ (m + e = 0 ∧ j + 1 = n)) := by
          rw [hcd] at hft
          simp only at hft
          by_cases h0 : m + e = 0
          · rw [if_pos h0] at hft
            have := congrArg Prod.fst hft
            simp only at this
            exact .inr ⟨h0, by omega⟩
          · rw [if_neg h0] at hft
            exact .inl ⟨by omega, hft⟩
        clear hft
        have hwk : IntKind.i64.wrap ((k : Int) + (j : Int) + 1) = ((k + (j + 1) : Nat) : Int) := by rw [IntWalk.i64_in _ ⟨by omega, by omega⟩]; omega
        by_cases hc0 : c < 0
        · have he := codeD_neg hcd hc0
          subst he
          have hcn : ¬ 0 ≤ c := by omega
          have hwm : IntKind.i64.wrap (m - 1) = m + -1 := by rw [IntWalk.i64_in _ ⟨by omega, by omega⟩]; omega
          clear hcd hx1
          go_wp2
          go_roundw
          case rel => exact ⟨j + 1, m + -1, by go_num, rfl, by omega, HD.out, by omega, trivial⟩
          case measure => simp [intOf]; omega
        · obtain ⟨cn, rfl⟩ : ∃ cn : Nat, c = cn := ⟨c.toNat, by omega⟩
          have hcn : (0 : Int) ≤ (cn : Int) := by omega
          obtain ⟨s, hsg, he⟩ := codeD_get hcd
          have hcl := (List.getElem?_eq_some_iff.1 hsg).1
          obtain ⟨g2, off2, nm, ar, rfl, hs1, hs2, hs3, hs4, hs5, hs6⟩ := HS.out.at (k := cn) hcl
          rw [hsg] at hs1
          cases hs1
          have har := HA.out _ (List.mem_of_getElem? hsg)
          simp only at har he
          subst he
          have hwm1 : IntKind.i64.wrap (m - 1) = m - 1 := IntWalk.i64_in _ ⟨by omega, by omega⟩
          have hwm : IntKind.i64.wrap (m - 1 + ar) = m + (ar - 1) := by rw [IntWalk.i64_in _ ⟨by omega, by omega⟩]; omega
          clear hsg hx1 hcd
          go_wp2
          go_roundw
          case rel => exact ⟨j + 1, m + (ar - 1), by go_num, rfl, by omega, HD.out, by omega, trivial⟩
          case measure => simp [intOf]; omega
    · go_wp2
      go_ret
      exact ⟨rfl, rfl⟩

/-- What is wrong with a place. -/
theorem place_eq {sig : List Sy} {t : List Int} {p : Int} (h : termE sig t = 0) : placeE sig t p = if p < 0 ∨ (t.length : Int) ≤ p then 33 else 0 := by
  unfold placeE
  rw [if_pos h]
  unfold endP
  by_cases hp : p < 0 ∨ (t.length : Int) ≤ p
  · rw [if_pos hp, if_pos hp]
  · rw [if_neg hp, if_neg hp]
    obtain ⟨k, rfl⟩ : ∃ k : Nat, p = k := ⟨p.toNat, by omega⟩
    have hk : k < t.length := by omega
    obtain ⟨h1, h2⟩ := term_parts h
    obtain ⟨_, _, h3, _⟩ := at_place (sigE_ok h1) h2 hk
    rw [Int.toNat_natCast, h3]

theorem place_in {sig : List Sy} {t : List Int} {k : Nat} (h : termE sig t = 0) (hk : k < t.length) : placeE sig t k = 0 := by
  rw [place_eq h, if_neg (by omega)]

theorem place_end {sig : List Sy} {t : List Int} {k : Nat} (h : termE sig t = 0) (hk : k < t.length) : endP sig t k = (((k + nodes sig t k : Nat) : Int), 0) := by
  obtain ⟨h1, h2⟩ := term_parts h
  obtain ⟨_, _, h3, _⟩ := at_place (sigE_ok h1) h2 hk
  unfold endP
  rw [if_neg (by omega), Int.toNat_natCast, h3]
  simp only [Prod.mk.injEq, and_true]
  omega

theorem sub_eq {sig : List Sy} {t : List Int} {k : Nat} (h : termE sig t = 0) (hk : k < t.length) : subL sig t k = (t.drop k).take (nodes sig t k) := by
  unfold subL
  rw [if_pos (place_in h hk), place_end h hk, Int.toNat_natCast, Int.toNat_natCast, show k + nodes sig t k - k = nodes sig t k by omega]

set_option maxRecDepth 100000 in
set_option maxHeartbeats 800000 in
theorem refPlace_any (sv v : Value) (sig : List Sy) (t : List Int) (p : Int) (w : World) (hs : Sg w sv sig) (h : Is w v t) (hb : t.length * 8 ≤ 140737488351232) (hp1 : -9223372036854775808 ≤ p) (hp2 : p ≤ 9223372036854775807) :
    Calls Tryd.prog 33 #[sv, v, .int .i64 p] w fun e w' => e = .returned (.int .i64 (placeE sig t p)) ∧ Below w.heap.size w w' := by
  obtain ⟨ao, cap, rfl, hao, hca, q0⟩ := Row.flat h
  unfold maxLen at hca
  have HS := hid hs
  have HI := hid h
  clear hs h q0
  go_enter Tryd.func33, Tryd.ntmps33
  go_wp2_with fail
  refine (refCheck_any sv _ sig t w HS.out HI.out hb).mono ?_
  rintro e w1 ⟨rfl, hb1⟩
  have HB := hid hb1
  clear hb1
  by_cases he : termE sig t = 0
  · have HF := hid (place_eq (p := p) he)
    rw [he]
    clear he
    by_cases h0 : p < 0
    · have HG : Hid (placeE sig t p = 33) := by show _ = _; rw [HF.out, if_pos (.inl h0)]
      go_wp2
      go_ret
      exact ⟨ret1i HG.out.symm, HB.out⟩
    · by_cases h1 : (t.length : Int) ≤ p
      · have HG : Hid (placeE sig t p = 33) := by show _ = _; rw [HF.out, if_pos (.inr h1)]
        go_wp2
        go_ret
        exact ⟨ret1i HG.out.symm, HB.out⟩
      · have HG : Hid (placeE sig t p = 0) := by show _ = _; rw [HF.out, if_neg (by omega)]
        go_wp2
        go_ret
        exact ⟨ret1i HG.out.symm, HB.out⟩
  · have HF : Hid (placeE sig t p = termE sig t) := by show _ = _; unfold placeE; rw [if_neg he]
    generalize termE sig t = E at he HF ⊢
    have heb : (E == 0) = false := by simpa using he
    go_wp2
    go_ret
    exact ⟨ret1i HF.out.symm, HB.out⟩

end Go.Proofs.YthjghdpiokpnfaaDoor

/- The document's Kids, Sub, Above, Vars walked. -/
namespace Go.Proofs.YthjghdpiokpnfaaDoor
open Go.RowKit Go.Maps Go.BigFrame

/-- A symbol's arguments, where they stand. -/
theorem kids_parts {sig : List Sy} {t : List Int} {k : Nat} {c : Int} (h : placeE sig t k = 0) (hc : t[k]? = some c) (h0 : ¬ c < 0) :
    ∃ (us : List (List Int)) (q : List Int), us.length = arN sig c ∧ t.drop (k + 1) = us.flatten ++ q ∧ (∀ u ∈ us, rowE sig u = 0) ∧ kidsL sig t k = places (k + 1) (us.map List.length) := by
  obtain ⟨ha, hr, k', m, hk, hkl, hm1, hend, hkm, hsub, hrow⟩ := placeE_ok h
  obtain rfl : k = k' := by omega
  have hd := drop_get hc
  obtain ⟨m', rfl⟩ : ∃ m', m = m' + 1 := ⟨m - 1, by omega⟩
  rw [hd, List.take_succ_cons] at hsub hrow
  obtain ⟨us, u1, u2, u3, u4⟩ := kids_tree ha hrow h0
  refine ⟨us, (t.drop (k + 1)).drop m', u1, by rw [← u2, List.take_append_drop], u3, ?_⟩
  unfold kidsL
  rw [hsub, Int.toNat_natCast, u4]
  show kidsGo (k + 1) (us.flatMap (growR sig)) = _
  rw [kids_places, ← grow_map ha us u3, grow_flat ha us u3]

theorem kids_var {sig : List Sy} {t : List Int} {k : Nat} {c : Int} (h : placeE sig t k = 0) (hc : t[k]? = some c) (h0 : c < 0) : kidsL sig t k = [] := by
  rw [kids_eq h hc, if_pos h0]

theorem drop_next {us : List (List Int)} {i : Nat} {u : List Int} (h : us[i]? = some u) (q : List Int) : (us.drop i).flatten ++ q = u ++ ((us.drop (i + 1)).flatten ++ q) := by
  rw [drop_get h, List.flatten_cons, List.append_assoc]

theorem first_right {sig : List Sy} {u : List Int} (h : rowE sig u = 0) (q : List Int) : firstT sig 1 0 (u ++ q) = ((u.length : Int), 0) := first_more q u 1 0 _ (by rw [row_first.1 h])

theorem place_term {sig : List Sy} {t : List Int} {p : Int} (h : placeE sig t p = 0) : termE sig t = 0 := by
  unfold placeE at h
  by_cases ht : termE sig t = 0
  · exact ht
  · rw [if_neg ht] at h; exact h

set_option maxRecDepth 100000 in
set_option maxHeartbeats 1600000 in
theorem refKids_any (sv v : Value) (sig : List Sy) (t : List Int) (p : Int) (w : World) (hs : Sg w sv sig) (h : Is w v t) (hb : t.length * 8 ≤ 140737488351232) (hp1 : -9223372036854775808 ≤ p) (hp2 : p ≤ 9223372036854775807) :
    Calls Tryd.prog 47 #[sv, v, .int .i64 p] w fun e w' => ∃ v', e = .returned (.tuple #[v', .int .i64 (placeE sig t p)]) ∧ OwI w' w.heap.size v' (kidsL sig t p) ∧ Below w.heap.size w w' := by
  obtain ⟨so, sc, rfl, hso, hsc, _⟩ := Row.flat hs
  obtain ⟨ao, cap, rfl, hao, hca, q0⟩ := Row.flat h
  unfold maxLen at hca hsc
  have HS := hid hs
  have HI := hid h
  clear hs h q0
  go_enter Tryd.func47, Tryd.ntmps47
  go_wp2_with fail
  refine (refPlace_any _ _ sig t p w HS.out HI.out hb hp1 hp2).mono ?_
  rintro e w1 ⟨rfl, hb1⟩
  have HB := hid hb1
  clear hb1
  by_cases he : placeE sig t p = 0
  · obtain ⟨ha, _, k, _, hk, hkl, _⟩ := placeE_ok he
    subst hk
    have HE := hid he
    have HA := hid ha
    have HI1 := hid (HI.out.kp (Kp.of_below HB.out))
    have HS1 := hid (HS.out.kp (Kp.of_below HB.out))
    obtain ⟨g, off, c, rfl, hx1, hx2, hx3, hx4⟩ := HI1.out.at hkl
    rw [he]
    clear ha
    by_cases hc0 : c < 0
    · have HK := hid (kids_var he hx1 hc0)
      have hcn : ¬ 0 ≤ c := by omega
      clear he hx1
      go_wp2
      go_ret2
      exact ⟨_, by rw [HE.out]; rfl, by rw [HK.out]; exact nilI _ _, HB.out⟩
    · obtain ⟨us, q, u1, u2, u3, u4⟩ := kids_parts he hx1 hc0
      obtain ⟨cn, rfl⟩ : ∃ cn : Nat, c = cn := ⟨c.toNat, by omega⟩
      have hcn : (0 : Int) ≤ (cn : Int) := by omega
      have hcl : cn < sig.length := by
        have h1 := (term_parts (place_term he)).2
        have h2 := (at_place HA.out h1 hkl).2.2.1
        rw [drop_get hx1, firstT_cons] at h2
        cases hcd : codeD sig (cn : Int) with
        | none => rw [hcd] at h2; simp at h2
        | some e =>
          obtain ⟨s, hsg, _⟩ := codeD_get hcd
          exact (List.getElem?_eq_some_iff.1 hsg).1
      obtain ⟨g2, off2, nm, ar, rfl, hs1, hs2, hs3, hs4, hs5, hs6⟩ := HS1.out.at (k := cn) hcl
      have har := HA.out _ (List.mem_of_getElem? hs1)
      simp only at har
      have harn : us.length = ar.toNat := by rw [u1]; unfold arN; rw [Int.toNat_natCast, hs1]
      have HU2 := hid u2
      have HU3 := hid u3
      have HU4 := hid u4
      obtain ⟨an, rfl⟩ : ∃ an : Nat, ar = an := ⟨ar.toNat, by omega⟩
      rw [Int.toNat_natCast] at harn
      have hwk : IntKind.i64.wrap ((k : Int) + 1) = ((k + 1 : Nat) : Int) := by rw [IntWalk.i64_in _ ⟨by omega, by omega⟩]; omega
      clear he hx1 hs1 u1 u2 u3 u4
      go_wp2
      clear hwk
      go_loopw [9, 10, 11] (fun x kv iv wr => ∃ (i kk : Nat) (o : List Int), i ≤ an ∧ iv = .int .i64 i ∧ kv = .int .i64 kk ∧ t.drop kk = (us.drop i).flatten ++ q ∧ places (k + 1) (us.map List.length) = o ++ places kk ((us.drop i).map List.length) ∧ o.length = i ∧ OwI wr w1.heap.size x o ∧ Below w1.heap.size w1 wr) (fun _ _ iv _ => an - (intOf iv).toNat)
      case atStart => exact ⟨0, k + 1, [], Nat.zero_le _, rfl, rfl, HU2.out, rfl, rfl, nilI _ _, Below.refl _ _⟩
      case round =>
        obtain ⟨i, kk, o, hi, rfl, rfl, hdr, hpl, hol, how, hbl⟩ := hrel
        have HD := hid hdr
        have HP := hid hpl
        have HO := hid how
        have HBl := hid hbl
        have HOl := hid hol
        have hr2 := (Kp.of_below hbl).cell _ _ hx2
        have hr3 := (Kp.of_below hbl).cell _ _ hs3
        clear hdr hpl how hbl hol
        by_cases hlt : i < an
        · obtain ⟨u, hu⟩ : ∃ u, us[i]? = some u := ⟨_, List.getElem?_eq_getElem (by omega)⟩
          have hru := HU3.out u (List.mem_of_getElem? hu)
          have hd2 := HD.out
          rw [drop_next hu q] at hd2
          have hfe := first_right hru ((us.drop (i + 1)).flatten ++ q)
          rw [← hd2] at hfe
          have HFe := hid hfe
          have hkkl : kk < t.length := by
            by_cases hk : kk < t.length
            · exact hk
            · rw [List.drop_of_length_le (by omega)] at hfe
              simp [firstT] at hfe
          have HD2 : Hid (t.drop (kk + u.length) = (us.drop (i + 1)).flatten ++ q) := by
            show _ = _
            rw [← List.drop_drop, hd2, List.drop_left]
          have HP2 : Hid (places (k + 1) (us.map List.length) = (o ++ [(kk : Int)]) ++ places (kk + u.length) ((us.drop (i + 1)).map List.length)) := by
            show _ = _
            rw [HP.out, drop_get hu, List.map_cons, places, List.append_assoc]
            rfl
          obtain ⟨v6, w6, hr6, ho6, hg6, _⟩ := join_one 24 (c := (kk : Int)) HO.out (by omega) (by omega) HBl.out.size (by rw [HOl.out]; omega)
          have hb6 := (below_step HBl.out (below_alloc _)).grown hg6 (below_step HBl.out (below_alloc _)).size (fun j hj => own_blk HO.out.2 hj)
          have HR6 := hid hr6
          have HO6 := hid ho6
          have HB6 := hid hb6
          have HOl2 : Hid ((o ++ [(kk : Int)]).length = i + 1) := by show _ = _; rw [List.length_append, HOl.out]; rfl
          clear hd2 hfe hr6 ho6 hu hru hg6 hb6
          go_wp2_with (first
            | (at_builtin; refine wpList_append_run rfl _ _ _ rfl _ _ rfl rfl HR6.out ?_))
          refine (refEnd_any _ _ sig t kk u.length w6 (HS1.out.kp (Kp.of_below HB6.out)) (HI1.out.kp (Kp.of_below HB6.out)) HA.out hb HFe.out).mono ?_
          rintro e w9 ⟨rfl, hw9⟩
          have hw8 := hw9.symm
          subst hw8
          clear hw9
          go_wp2
          go_roundw
          case rel => exact ⟨i + 1, kk + u.length, o ++ [(kk : Int)], by omega, by go_num, by go_num, HD2.out, HP2.out, HOl2.out, HO6.out, HB6.out⟩
          case measure => simp [intOf]; omega
        · have hie : i = us.length := by omega
          have HF : Hid (kidsL sig t k = o) := by
            show _ = _
            rw [HU4.out, HP.out, hie, List.drop_length]
            simp [places]
          have HFo := hid (HO.out.mono HB.out.size)
          have HFb := hid (below_step HB.out HBl.out)
          clear hie
          go_wp2
          go_ret2
          exact ⟨_, by rw [HE.out]; rfl, by rw [HF.out]; exact HFo.out, HFb.out⟩
  · have HK := hid (kidsL_bad he)
    obtain ⟨E, hE⟩ : ∃ E, placeE sig t p = E := ⟨_, rfl⟩
    have HE := hid hE
    rw [hE] at he
    rw [hE]
    have heb : (E != 0) = true := by simpa using he
    clear hE
    go_wp2
    go_ret2
    exact ⟨_, by rw [HE.out]; rfl, by rw [HK.out]; exact nilI _ _, HB.out⟩

/-- The places above a place, as they are told. -/
def aboveL (sig : List Sy) (t : List Int) (p : Int) : List Int := if placeE sig t p = 0 then (abD sig t p.toNat).map fun i : Nat => (i : Int) else []

end Go.Proofs.YthjghdpiokpnfaaDoor

/- What the document's Shift answers. -/
namespace Go.Proofs.YthjghdpiokpnfaaDoor
open Go.RowKit Go.Maps Go.BigFrame

end Go.Proofs.YthjghdpiokpnfaaDoor


/- Canon, plainly: it is blind to a renaming, and numbers what it numbered the same again. -/
namespace Go.Proofs.YthjghdpiokpnfaaDoor
open Go.RowKit Go.Maps

/-- A code whose variable has another number. -/
def reC (f : Int → Int) (c : Int) : Int := if c < 0 then -1 - f (-1 - c) else c
def reK (f : Int → Int) (m : Met) : Met := m.map fun p => (f p.1, p.2)

theorem reK_lookup {f : Int → Int} {S : Int → Prop} (hf : ∀ a b, S a → S b → f a = f b → a = b) (n : Int) (hn : S n) : ∀ m : Met, (∀ p ∈ m, S p.1) → (reK f m).lookup (f n) = m.lookup n
  | [], _ => rfl
  | (k, i) :: m, h => by
    show List.lookup (f n) ((f k, i) :: reK f m) = _
    rw [List.lookup_cons, List.lookup_cons]
    have hk := h _ (.head _)
    by_cases e : n = k
    · subst e
      simp
    · rw [show (n == k) = false by simpa using e, show (f n == f k) = false by simp; exact fun e2 => e (hf n k hn hk e2)]
      exact reK_lookup hf n hn m (fun p hp => h p (.tail _ hp))

theorem numN_re {f : Int → Int} {S : Int → Prop} (hf : ∀ a b, S a → S b → f a = f b → a = b) (m : Met) (n : Int) (hm : ∀ p ∈ m, S p.1) (hn : S n) :
    numN (reK f m) (f n) = ((numN m n).1, reK f (numN m n).2) ∧ ∀ p ∈ (numN m n).2, S p.1 := by
  unfold numN
  rw [reK_lookup hf n hn m hm]
  cases m.lookup n with
  | some i => exact ⟨rfl, hm⟩
  | none =>
    refine ⟨by simp [reK], fun p hp => ?_⟩
    cases hp with
    | head => exact hn
    | tail _ hp => exact hm p hp

theorem renG_re {f : Int → Int} {S : Int → Prop} (hf : ∀ a b, S a → S b → f a = f b → a = b) (h0 : ∀ a, S a → 0 ≤ f a) : ∀ (t : List Int) (m : Met), (∀ p ∈ m, S p.1) → (∀ c ∈ t, c < 0 → S (-1 - c)) →
    renG numN (reK f m) (t.map (reC f)) = ((renG numN m t).1, reK f (renG numN m t).2) ∧ ∀ p ∈ (renG numN m t).2, S p.1
  | [], m, hm, _ => ⟨rfl, hm⟩
  | c :: t, m, hm, ht => by
    by_cases hc : c < 0
    · have hs := ht c (.head _) hc
      obtain ⟨e1, e2⟩ := numN_re hf m (-1 - c) hm hs
      obtain ⟨e3, e4⟩ := renG_re hf h0 t (numN m (-1 - c)).2 e2 (fun x hx => ht x (.tail _ hx))
      have hr : reC f c = -1 - f (-1 - c) := by unfold reC; rw [if_pos hc]
      have hneg : -1 - f (-1 - c) < 0 := by have := h0 _ hs; omega
      rw [List.map_cons, hr]
      simp only [renG, if_pos hneg, if_pos hc, show -1 - (-1 - f (-1 - c)) = f (-1 - c) by omega, e1, e3]
      exact ⟨trivial, e4⟩
    · obtain ⟨e3, e4⟩ := renG_re hf h0 t m hm (fun x hx => ht x (.tail _ hx))
      have hr : reC f c = c := by unfold reC; rw [if_neg hc]
      rw [List.map_cons, hr]
      simp only [renG, if_neg hc, e3]
      exact ⟨trivial, e4⟩

theorem canG_re {f : Int → Int} {S : Int → Prop} (hf : ∀ a b, S a → S b → f a = f b → a = b) (h0 : ∀ a, S a → 0 ≤ f a) : ∀ (l : List (List Int)) (m : Met), (∀ p ∈ m, S p.1) → (∀ t ∈ l, ∀ c ∈ t, c < 0 → S (-1 - c)) →
    canG (reK f m) (l.map fun t => t.map (reC f)) = canG m l
  | [], _, _, _ => rfl
  | t :: l, m, hm, hl => by
    obtain ⟨e1, e2⟩ := renG_re hf h0 t m hm (hl t (.head _))
    rw [List.map_cons]
    simp only [canG, e1]
    rw [canG_re hf h0 l _ e2 (fun x hx => hl x (.tail _ hx))]

/-- A row shifted is a row renamed. -/
theorem canL_shift (d : Int) (l : List (List Int)) (hl : ∀ t ∈ l, ∀ c ∈ t, c < 0 → 0 ≤ -1 - c + d) : canL (l.map fun t => t.map fun c => if c < 0 then c - d else c) = canL l := by
  have h := canG_re (f := fun n => n + d) (S := fun n => 0 ≤ n + d) (fun a b _ _ e => by omega) (fun a h => h) l [] (fun p hp => (by cases hp)) hl
  have e : (fun t : List Int => t.map (reC fun n => n + d)) = fun t => t.map fun c => if c < 0 then c - d else c := by
    funext t
    congr 1
    funext c
    unfold reC
    by_cases hc : c < 0
    · rw [if_pos hc, if_pos hc]
      show -1 - (-1 - c + d) = c - d
      omega
    · rw [if_neg hc, if_neg hc]
  rw [e] at h
  exact h

/-- What is met behind all rows. -/
def canS : Met → List (List Int) → Met
  | m, [] => m
  | m, t :: l => canS (renG numN m t).2 l

/-- What one holds the other holds. -/
def Ext (m m' : Met) : Prop := ∀ n i, m.lookup n = some i → m'.lookup n = some i

theorem ext_num (m : Met) (n : Int) : Ext m (numN m n).2 := fun k i hk => by
  unfold numN
  cases hn : m.lookup n with
  | some j => exact hk
  | none =>
    have e : k ≠ n := fun e => by rw [e, hn] at hk; cases hk
    show List.lookup k ((n, (m.length : Int)) :: m) = _
    rw [List.lookup_cons, show (k == n) = false by simpa using e]
    exact hk

theorem val_num (m : Met) (n : Int) : (numN m n).2.lookup n = some (numN m n).1 := by
  unfold numN
  cases hn : m.lookup n with
  | some j => exact hn
  | none =>
    show List.lookup n ((n, (m.length : Int)) :: m) = _
    rw [List.lookup_cons, show (n == n) = true by simp]

theorem ext_ren : ∀ (t : List Int) (m : Met), Ext m (renG numN m t).2
  | [], _ => fun _ _ h => h
  | c :: t, m => fun n i h => by
    unfold renG
    split
    · exact ext_ren t _ n i (ext_num m (-1 - c) n i h)
    · exact ext_ren t m n i h

theorem ext_can : ∀ (l : List (List Int)) (m : Met), Ext m (canS m l)
  | [], _ => fun _ _ h => h
  | t :: l, m => fun n i h => ext_can l _ n i (ext_ren t m n i h)

/-- The number that a variable has in the end. -/
def numF (F : Met) (n : Int) : Int := (F.lookup n).getD 0

theorem ren_map (F : Met) : ∀ (t : List Int) (m : Met), Ext (renG numN m t).2 F → (renG numN m t).1 = t.map (reC (numF F)) ∧ ∀ c ∈ t, c < 0 → (F.lookup (-1 - c)).isSome = true
  | [], _, _ => ⟨rfl, fun c hc => (by cases hc)⟩
  | c :: t, m, h => by
    by_cases hc : c < 0
    · have e : renG numN m (c :: t) = ((-1 - (numN m (-1 - c)).1) :: (renG numN (numN m (-1 - c)).2 t).1, (renG numN (numN m (-1 - c)).2 t).2) := by simp only [renG, if_pos hc]
      rw [e] at h
      obtain ⟨h1, h2⟩ := ren_map F t (numN m (-1 - c)).2 h
      have hv := h _ _ (ext_ren t _ _ _ (val_num m (-1 - c)))
      refine ⟨?_, fun x hx hx0 => ?_⟩
      · rw [e, List.map_cons, ← h1]
        simp only [reC, if_pos hc, numF, hv, Option.getD_some]
      · cases hx with
        | head => rw [hv]; rfl
        | tail _ hx => exact h2 x hx hx0
    · have e : renG numN m (c :: t) = (c :: (renG numN m t).1, (renG numN m t).2) := by simp only [renG, if_neg hc]
      rw [e] at h
      obtain ⟨h1, h2⟩ := ren_map F t m h
      refine ⟨?_, fun x hx hx0 => ?_⟩
      · rw [e, List.map_cons, ← h1]
        simp only [reC, if_neg hc]
      · cases hx with
        | head => exact absurd hx0 hc
        | tail _ hx => exact h2 x hx hx0

theorem can_map (F : Met) : ∀ (l : List (List Int)) (m : Met), Ext (canS m l) F → canG m l = (l.map fun t => t.map (reC (numF F))) ∧ ∀ t ∈ l, ∀ c ∈ t, c < 0 → (F.lookup (-1 - c)).isSome = true
  | [], _, _ => ⟨rfl, fun t ht => (by cases ht)⟩
  | t :: l, m, h => by
    obtain ⟨h1, h2⟩ := can_map F l (renG numN m t).2 h
    obtain ⟨h3, h4⟩ := ren_map F t m (fun n i hn => h n i (ext_can l _ n i hn))
    refine ⟨by rw [List.map_cons, ← h1, ← h3]; rfl, fun x hx => ?_⟩
    cases hx with
    | head => exact h4
    | tail _ hx => exact h2 x hx

/-- Unlike variables have unlike numbers, none below 0, none from the count on. -/
def Apt (m : Met) : Prop := (∀ a b i, m.lookup a = some i → m.lookup b = some i → a = b) ∧ ∀ p ∈ m, 0 ≤ p.2 ∧ p.2 < (m.length : Int)

theorem apt_num {m : Met} (h : Apt m) (n : Int) : Apt (numN m n).2 := by
  refine ⟨?_, (numN_in h.2).2⟩
  unfold numN
  cases hn : m.lookup n with
  | some j => exact h.1
  | none =>
    intro a b i ha hb
    rw [List.lookup_cons] at ha hb
    by_cases ea : a = n
    · by_cases eb : b = n
      · rw [ea, eb]
      · subst ea
        rw [show (b == a) = false by simpa using eb] at hb
        simp at ha
        have := h.2 _ (lookup_mem hb)
        simp only at this
        omega
    · rw [show (a == n) = false by simpa using ea] at ha
      by_cases eb : b = n
      · subst eb
        simp at hb
        have := h.2 _ (lookup_mem ha)
        simp only at this
        omega
      · rw [show (b == n) = false by simpa using eb] at hb
        exact h.1 a b i ha hb

theorem apt_ren : ∀ (t : List Int) (m : Met), Apt m → Apt (renG numN m t).2
  | [], _, h => h
  | c :: t, m, h => by
    unfold renG
    split
    · exact apt_ren t _ (apt_num h _)
    · exact apt_ren t m h

theorem apt_can : ∀ (l : List (List Int)) (m : Met), Apt m → Apt (canS m l)
  | [], _, h => h
  | t :: l, m, h => apt_can l _ (apt_ren t m h)

/-- Canon of what Canon numbered is the same. -/
theorem canL_again (l : List (List Int)) : canL (canL l) = canL l := by
  have hA : Apt (canS [] l) := apt_can l [] ⟨fun a b i h => (by cases h), fun p hp => (by cases hp)⟩
  obtain ⟨h1, h2⟩ := can_map (canS [] l) l [] (fun _ _ h => h)
  have h3 := canG_re (f := numF (canS [] l)) (S := fun n => ((canS [] l).lookup n).isSome = true) (fun a b ha hb e => by
    obtain ⟨i, hi⟩ := Option.isSome_iff_exists.1 ha
    obtain ⟨j, hj⟩ := Option.isSome_iff_exists.1 hb
    simp only [numF, hi, hj, Option.getD_some] at e
    subst e
    exact hA.1 a b i hi hj) (fun a ha => by
    obtain ⟨i, hi⟩ := Option.isSome_iff_exists.1 ha
    simp only [numF, hi, Option.getD_some]
    exact (hA.2 _ (lookup_mem hi)).1) l [] (fun p hp => (by cases hp)) h2
  unfold canL
  rw [h1]
  rw [h1] at h3
  exact h3

end Go.Proofs.YthjghdpiokpnfaaDoor

/- Shift, and back. -/
namespace Go.Proofs.YthjghdpiokpnfaaDoor
open Go.RowKit Go.Maps

theorem isVarB_iff2 {n : Int} : isVarB n = true ↔ 0 ≤ n ∧ n < 1048576 := isVarB_iff

theorem shift_cell {d c : Int} (h : c < 0 → isVarB (-1 - c + d) = true) : (if c < 0 then c - d else c) < 0 ↔ c < 0 := by
  by_cases hc : c < 0
  · have := isVarB_iff2.1 (h hc)
    rw [if_pos hc]
    omega
  · rw [if_neg hc]

theorem okShift_cons (d c : Int) (t : List Int) : okShift d (c :: t) = true ↔ (c < 0 → isVarB (-1 - c + d) = true) ∧ okShift d t = true := by
  unfold okShift
  rw [List.all_cons, Bool.and_eq_true]
  refine and_congr_left fun _ => ?_
  by_cases hc : c < 0
  · simp [hc]
  · simp [hc]

/-- What was shifted is shifted back just if all numbers were those of variables. -/
theorem shift_back (d : Int) : ∀ t : List Int, okShift d t = true → (okShift (-d) (t.map fun c => if c < 0 then c - d else c) = true ↔ ∀ c ∈ t, -1048576 ≤ c) ∧ ((t.map fun c => if c < 0 then c - d else c).map fun c => if c < 0 then c - -d else c) = t
  | [], _ => ⟨⟨fun _ c hc => (by cases hc), fun _ => rfl⟩, rfl⟩
  | c :: t, h => by
    obtain ⟨h1, h2⟩ := (okShift_cons d c t).1 h
    obtain ⟨h3, h4⟩ := shift_back d t h2
    have hs := shift_cell h1
    refine ⟨?_, ?_⟩
    · rw [List.map_cons, okShift_cons, h3, hs]
      refine ⟨fun ⟨k1, k2⟩ x hx => ?_, fun k => ⟨fun hc => ?_, fun x hx => k x (.tail _ hx)⟩⟩
      · cases hx with
        | head =>
          by_cases hc : c < 0
          · have := k1 hc
            rw [if_pos hc, isVarB_iff2] at this
            omega
          · omega
        | tail _ hx => exact k2 x hx
      · have := k c (.head _)
        rw [if_pos hc, isVarB_iff2]
        omega
    · rw [List.map_cons, List.map_cons, h4]
      congr 1
      by_cases hc : c < 0
      · rw [if_pos (hs.2 hc), if_pos hc]
        omega
      · rw [if_neg (fun h => hc (hs.1 h)), if_neg hc]

end Go.Proofs.YthjghdpiokpnfaaDoor
