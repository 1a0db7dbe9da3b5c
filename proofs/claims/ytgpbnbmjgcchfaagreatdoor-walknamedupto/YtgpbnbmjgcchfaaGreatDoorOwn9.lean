/- Texts of the proof, one behind the other. -/
import Derived.Test.YtgpbnbmjgcchfaaGreatDoorOwn8
import Derived.Test.YtgpbnbmjgcchfaaGreatDoorOwn3
import Derived.Test.YtgpbnbmjgcchfaaGreatDoorOwn1
/- bindAlike and argumentPairs walked. -/
namespace Go.Proofs.YtgpbnbmjgcchfaaGreatDoor
open Go.RowKit Go.Maps Go.BigFrame

theorem number_any (b o c q : Nat) (x : Int) (w : World) (h : w.cell? ⟨b, o + q, none⟩ = some (.int .i64 x)) (h1 : -9223372036854775808 ≤ x) (h2 : x ≤ 9223372036854775807) :
    Calls Tryz.prog 88 #[.agg #[cdS b o c q 1]] w fun e w' => e = .returned (.int .i64 (-1 - x)) ∧ Below w.heap.size w w' := by
  have hc := (Kp.of_below (below_alloc (w := w) (.cells #[cdS b o c q 1] 134))).cell _ _ h
  have hw : IntKind.i64.wrap (-1 - x) = -1 - x := IntWalk.i64_in _ ⟨by omega, by omega⟩
  unfold cdS at hc ⊢
  go_enter Tryz.func88, Tryz.ntmps88
  go_wp2
  go_ret
  exact ⟨rfl, below_alloc _⟩

theorem symbol_any (B b o c q n : Nat) (x : Int) (w : World) (h0 : w.cell? ⟨B, 0, none⟩ = some (cdS b o c q (1 + n))) (h : w.cell? ⟨b, o + q, none⟩ = some (.int .i64 x)) :
    Calls Tryz.prog 105 #[.pointer (some ⟨B, 0, none⟩)] w fun e w' => e = .returned (.int .i64 x) ∧ w' = w := by
  unfold cdS at h0
  have hn : 0 < 1 + n := by omega
  have hni : (0 : Int) < 1 + (n : Int) := by omega
  go_enter Tryz.func105, Tryz.ntmps105
  go_wp2
  go_ret
  exact ⟨rfl, rfl⟩

set_option maxHeartbeats 400000 in
theorem equalI_any (v u : Value) (xs ys : List Int) (w : World) (h : Is w v xs) (h' : Is w u ys) :
    Calls Tryz.prog 104 #[v, u] w fun e w' => e = .returned (.bool (decide (xs = ys))) ∧ ∃ n, w' = w.drewN n := by
  obtain ⟨ao, cap, rfl, hao, hca, hcl⟩ := h.flatI
  obtain ⟨bo, cap', rfl, hbo, hcb, hcl'⟩ := h'.flatI
  clear h h'
  by_cases hl : xs.length = ys.length
  · have hle : ((xs.length : Int) != ys.length) = false := by simp; omega
    go_enter Tryz.func104, Tryz.ntmps104
    go_wp2
    go_loopw [13] (fun i wr => ∃ k : Nat, k ≤ xs.length ∧ i = .int .i64 k ∧ xs.take k = ys.take k ∧ ∃ n, wr = w.drewN n) (fun i _ => xs.length - (intOf i).toNat)
    case atStart => exact ⟨0, Nat.zero_le _, rfl, rfl, 0, rfl⟩
    case round =>
      obtain ⟨k, hk, rfl, ht, n, rfl⟩ := hrel
      have HT : Hid (xs.take k = ys.take k) := ht
      clear ht
      by_cases hlt : k < xs.length
      · obtain ⟨g, off, x, rfl, hx1, hx3⟩ := hcl k hlt
        obtain ⟨g', off', y, rfl, hy1, hy3⟩ := hcl' k (by omega)
        have HX : Hid (xs[k]? = some x) := hx1
        have HY : Hid (ys[k]? = some y) := hy1
        have hlt' : k < ys.length := by omega
        clear hx1 hy1 hcl hcl'
        by_cases hxy : x = y
        · subst hxy
          have hxx : (x != x) = false := by simp
          go_wp2
          go_quiet (fail)
          go_wp2
          go_roundw
          case rel => exact ⟨k + 1, by omega, by go_num, by rw [take_get HX.out, take_get HY.out, HT.out], _, rfl⟩
          case measure => simp [intOf]; omega
        · have hne : (x != y) = true := by rw [bne_iff_ne]; exact hxy
          go_wp2
          go_quiet (fail)
          go_wp2
          go_ret
          exact ⟨ret1b (by rw [eq_comm, decide_eq_false_iff_not]; rintro rfl; have := HX.out.symm.trans HY.out; simp at this; exact hxy this), _, World.drewN_drewN _ _ _⟩
      · have hk' : k = xs.length := by omega
        go_wp2
        go_ret
        refine ⟨ret1b ?_, n, rfl⟩
        have := HT.out
        rw [List.take_of_length_le (by omega), List.take_of_length_le (by omega)] at this
        simp [this]
  · have hle : ((xs.length : Int) != ys.length) = true := by rw [bne_iff_ne]; omega
    go_enter Tryz.func104, Tryz.ntmps104
    go_wp2
    go_ret
    exact ⟨ret1b (by rw [eq_comm, decide_eq_false_iff_not]; rintro rfl; exact hl rfl), 0, rfl⟩

/-- What the map holds: rows of codes. -/
def Rows2 (w : World) (L : List (Int × Value)) (R : List (Int × List Int)) : Prop := L.map (·.1) = R.map (·.1) ∧ ∀ n v, L.lookup n = some v → ∃ u, R.lookup n = some u ∧ Is w v u

theorem zero_rowI (w : World) : (zeroValue 26).run Tryz.prog w = .ok (.slice none 0 0) w := by kernel_rfl
theorem under_mapI : Tryz.prog.underlying 111 = some (.map 3 26) := by kernel_rfl

set_option maxRecDepth 100000 in
set_option maxHeartbeats 800000 in
theorem bindAlike_any (b : Nat) (L : List (Int × Value)) (n : Int) (s : Value) (u : List Int) (w : World) (hm : MapV w b L) (hs : Is w s u) (hL : ∀ v, L.lookup n = some v → ∃ u', Is w v u') (h1 : -9223372036854775808 ≤ n) (h2 : n ≤ 9223372036854775807) (hl : L.length < maxLen) :
    Calls Tryz.prog 87 #[.map (some b), .int .i64 n, s] w fun e w' =>
      (L.lookup n = none ∧ e = .returned (.bool true) ∧ MapV w' b ((n, s) :: L) ∧ w.grownBy w' (some b)) ∨
      (∃ v u', L.lookup n = some v ∧ Is w v u' ∧ e = .returned (.bool (decide (u' = u))) ∧ ∃ k, w' = w.drewN k) := by
  have hlk := hm.look under_mapI (zero_rowI w) h1 h2
  have HM := hid hm
  have HS := hid hs
  cases hn : L.lookup n with
  | none =>
    rw [hn] at hlk
    simp only [Option.getD, Option.isSome] at hlk
    obtain ⟨w4, hr4, hm4, hg4⟩ := hm.store under_mapI h1 h2 hn hl s
    have HLk := hid hlk
    have HR4 := hid hr4
    have HM4 := hid hm4
    have HG4 := hid hg4
    clear hlk hr4 hm4 hg4 hm hs hL
    go_enter Tryz.func87, Tryz.ntmps87
    go_wp2_with (first
      | (at_lookup; refine wpList_lookup_run rfl _ _ _ _ rfl _ _ _ rfl rfl HLk.out ?_)
      | (at_mapUpdate; refine wpList_mapUpdate_run rfl _ _ _ _ rfl _ _ _ rfl rfl rfl HR4.out ?_))
    go_ret
    exact .inl ⟨trivial, rfl, HM4.out, HG4.out⟩
  | some v =>
    rw [hn] at hlk
    simp only [Option.getD, Option.isSome] at hlk
    obtain ⟨u', hu'⟩ := hL v hn
    have HLk := hid hlk
    have HU := hid hu'
    clear hlk hm hs hL hu'
    go_enter Tryz.func87, Tryz.ntmps87
    go_wp2_with (first
      | (at_lookup; refine wpList_lookup_run rfl _ _ _ _ rfl _ _ _ rfl rfl HLk.out ?_))
    refine (equalI_any v s u' u w HU.out HS.out).mono ?_
    rintro e w2 ⟨rfl, k, hw⟩
    go_wp2
    go_ret
    exact .inr ⟨v, u', rfl, HU.out, rfl, k, rfl⟩

/-- Pairs of trees. -/
def prC (xs : List (Value × Value)) : List Value := xs.flatMap fun p => [p.1, p.2]

theorem prC_len : ∀ xs : List (Value × Value), (prC xs).length = xs.length * 2
  | [] => rfl
  | p :: xs => by
    have := prC_len xs
    simp only [prC, List.flatMap_cons, List.length_append, List.length_cons, List.length_nil] at this ⊢
    omega

theorem prC_app (xs ys : List (Value × Value)) : prC (xs ++ ys) = prC xs ++ prC ys := by simp [prC, List.flatMap_append]

theorem prC_at : ∀ (xs : List (Value × Value)) (k : Nat) (p : Value × Value), xs[k]? = some p → (prC xs)[k * 2]? = some p.1 ∧ (prC xs)[k * 2 + 1]? = some p.2
  | [], k, p, h => by simp at h
  | q :: xs, 0, p, h => by
    simp only [List.getElem?_cons_zero, Option.some.injEq] at h
    subst h
    exact ⟨rfl, rfl⟩
  | q :: xs, k + 1, p, h => by
    rw [List.getElem?_cons_succ] at h
    have := prC_at xs k p h
    refine ⟨?_, ?_⟩
    · rw [show (k + 1) * 2 = k * 2 + 1 + 1 by omega]
      exact this.1
    · rw [show (k + 1) * 2 + 1 = k * 2 + 1 + 1 + 1 by omega]
      exact this.2

theorem info_pair : (Tryz.prog.info? 131).map (fun i => (i.zero, i.size, i.bytes)) = some (some (.agg #[.nilIface, .nilIface]), 2, 32) := by kernel_rfl
theorem under_pairs : Tryz.prog.underlying 132 = some (.slice 131) := by kernel_rfl

/-- A row of pairs of one's own. -/
def OwP (w : World) (base : Nat) (v : Value) (xs : List (Value × Value)) : Prop := w.ownsRow base 131 2 v xs.length (prC xs)

/-- Pairs joined to a row of pairs. -/
theorem join_pairs (ty : TypeId) {w : World} {base : Nat} {x : Value} {xs ys : List (Value × Value)} {ao : Option Addr} {cap : Nat} (ho : OwP w base x xs) (hr : ys = [] ∨ ∃ g off, ao = some ⟨g, off, none⟩ ∧ ∀ (j : Nat) (u : Value), (prC ys)[j]? = some u → w.cell? ⟨g, off + j, none⟩ = some u)
    (h1 : ∀ u ∈ prC ys, u.oneCell' = true) (hb : base ≤ w.heap.size) (hl : (xs.length + ys.length) * 32 ≤ 140737488355328) :
    ∃ v' w', (Builtin.append_ #[132, 132] ty #[x, .slice ao ys.length cap]).run Tryz.prog w = .ok v' w' ∧ OwP w' base v' (xs ++ ys) ∧ w.grownBy w' x.ownBlock ∧ (v'.ownBlock = x.ownBlock ∨ v'.ownBlock = some w.heap.size) := by
  obtain ⟨i0, hi, hz0, hz1, hz2⟩ := info_parts info_pair
  have hshape : ∃ bo bc, x = .slice bo xs.length bc ∧ xs.length ≤ bc := by
    rcases ho.2 with ⟨h8, h9⟩ | ⟨g8, c8, cur8, h8, _, _, h9, _⟩
    · exact ⟨none, 0, by rw [h8, h9], by omega⟩
    · exact ⟨_, c8, h8, h9⟩
  by_cases h0 : ys = []
  · subst h0
    obtain ⟨bo, bc, rfl, hbc⟩ := hshape
    refine ⟨_, w, run_append_nothing w 132 132 ty 131 i0 under_pairs hi _ xs.length bc hbc _ ?_, by rw [List.append_nil]; exact ho, World.grownBy.refl _ _, .inl rfl⟩
    cases ao with
    | none => exact Src.ofNil w under_pairs _
    | some a => exact Src.ofSlice w under_pairs a 0 _ [] (by simp) (fun j u hj => (by simp at hj)) (fun u hu => (by simp at hu))
  · obtain ⟨g, off, rfl, hc⟩ : ∃ g off, ao = some ⟨g, off, none⟩ ∧ ∀ (j : Nat) (u : Value), (prC ys)[j]? = some u → w.cell? ⟨g, off + j, none⟩ = some u := by
      rcases hr with hr | hr
      · exact absurd hr h0
      · exact hr
    obtain ⟨v', w', hr, g2, g3, _, g5⟩ := run_append_own_at (P := Tryz.prog) w base 132 ty 131 i0 _ 2 32 under_pairs hi hz0 hz1 hz2 rfl (by decide) x xs.length (prC xs) ho ⟨g, off, none⟩ ys.length cap (prC ys) (prC_len ys)
      (fun j u hj => by rw [Addr.add_lit]; exact hc j u hj) h1 (by unfold maxLen; omega) (by omega) hb
    refine ⟨v', w', hr, ?_, g3, g5⟩
    unfold OwP
    rw [List.length_append, prC_app]
    exact g2

end Go.Proofs.YtgpbnbmjgcchfaaGreatDoor

/- Rows of one's own whose elements have two cells. -/
namespace Go.Proofs.YtgpbnbmjgcchfaaGreatDoor
open Go.RowKit Go.Maps Go.BigFrame

theorem prC_in {xs : List (Value × Value)} {u : Value} (h : u ∈ prC xs) : ∃ p ∈ xs, u = p.1 ∨ u = p.2 := by
  unfold prC at h
  rw [List.mem_flatMap] at h
  obtain ⟨p, hp, hu⟩ := h
  simp only [List.mem_cons, List.not_mem_nil, or_false] at hu
  exact ⟨p, hp, hu⟩

/-- Which of two cells. -/
theorem prC_get {xs : List (Value × Value)} {j : Nat} {u : Value} (h : (prC xs)[j]? = some u) : ∃ p, xs[j / 2]? = some p ∧ ((j = j / 2 * 2 ∧ u = p.1) ∨ (j = j / 2 * 2 + 1 ∧ u = p.2)) := by
  have hl := (List.getElem?_eq_some_iff.1 h).1
  rw [prC_len] at hl
  have hp : xs[j / 2]? = some xs[j / 2] := List.getElem?_eq_getElem (by omega)
  obtain ⟨h1, h2⟩ := prC_at xs (j / 2) _ hp
  rcases Nat.mod_two_eq_zero_or_one j with h9 | h9
  · have e : j / 2 * 2 = j := by omega
    rw [e, h] at h1
    exact ⟨_, hp, .inl ⟨e.symm, Option.some.inj h1⟩⟩
  · have e : j / 2 * 2 + 1 = j := by omega
    rw [e, h] at h2
    exact ⟨_, hp, .inr ⟨e.symm, Option.some.inj h2⟩⟩

theorem prC_set : ∀ (us : List (Value × Value)) (i : Nat) (q : Value × Value), prC (us.set i q) = ((prC us).set (i * 2) q.1).set (i * 2 + 1) q.2
  | [], i, q => by simp [prC]
  | p :: us, 0, q => by simp [prC]
  | p :: us, i + 1, q => by
    have h := prC_set us i q
    have e : ∀ (x : Value × Value) (l : List (Value × Value)), prC (x :: l) = x.1 :: x.2 :: prC l := fun x l => by simp [prC]
    rw [List.set_cons_succ, e, e, h, show (i + 1) * 2 = i * 2 + 1 + 1 by omega]
    rfl

/-- Two elements of a row of one's own, each two cells wide, change their places. -/
theorem own_swap2 {w X : World} {base g n cap : Nat} {e : TypeId} {us : List (Value × Value)} (h : w.ownsRow base e 2 (.slice (some ⟨g, 0, none⟩) n cap) n (prC us)) {i j : Nat} {p q : Value × Value}
    (hX : ((((w.setCell ⟨g, i * 2, none⟩ q.1).setCell ⟨g, i * 2 + 1, none⟩ q.2).setCell ⟨g, j * 2, none⟩ p.1).setCell ⟨g, j * 2 + 1, none⟩ p.2).drew = X) :
    X.ownsRow base e 2 (.slice (some ⟨g, 0, none⟩) n cap) n (prC ((us.set i q).set j p)) ∧ X.heap.size = w.heap.size ∧ (∀ k, k ≠ g → X.heap[k]? = w.heap[k]?) ∧ ∀ b w0, b ≤ g → Below b w0 w → Below b w0 X := by
  subst hX
  refine ⟨?_, by simp, fun k hk => ?_, fun b w0 hle hb => ?_⟩
  · rw [prC_set, prC_set]
    exact (World.ownsRow.stored (World.ownsRow.stored (World.ownsRow.stored (World.ownsRow.stored h (i * 2) q.1).1 (i * 2 + 1) q.2).1 (j * 2) p.1).1 (j * 2 + 1) p.2).1
  · show (World.setCell _ _ _).heap[k]? = _
    rw [heap_setCell_other _ _ _ _ hk, heap_setCell_other _ _ _ _ hk, heap_setCell_other _ _ _ _ hk, heap_setCell_other _ _ _ _ hk]
  · exact ((((hb.setCell (p := ⟨g, i * 2, none⟩) hle _).setCell (p := ⟨g, i * 2 + 1, none⟩) hle _).setCell (p := ⟨g, j * 2, none⟩) hle _).setCell (p := ⟨g, j * 2 + 1, none⟩) hle _).drew

theorem own_cells2 {w : World} {base g n cap : Nat} {e : TypeId} {us : List (Value × Value)} (h : w.ownsRow base e 2 (.slice (some ⟨g, 0, none⟩) n cap) n (prC us)) (hl : us.length = n) {i : Nat} {p : Value × Value} (hi : us[i]? = some p) :
    w.cell? ⟨g, i * 2, none⟩ = some p.1 ∧ w.cell? ⟨g, i * 2 + 1, none⟩ = some p.2 ∧ w.frozen? ⟨g, i * 2, none⟩ = false ∧ w.frozen? ⟨g, i * 2 + 1, none⟩ = false := by
  have hlt : i < us.length := (List.getElem?_eq_some_iff.1 hi).1
  obtain ⟨h1, h2⟩ := prC_at us i p hi
  rcases h.2 with ⟨hv, _⟩ | ⟨g', cap', cur, hv, hb, hg, r⟩
  · cases hv
  · cases hv
    refine ⟨?_, ?_, frozen_of_row _ _ _ _ _ hg, frozen_of_row _ _ _ _ _ hg⟩
    · rw [World.ownsRow.cellAt h (i * 2) (by omega)]
      exact h1
    · rw [World.ownsRow.cellAt h (i * 2 + 1) (by omega)]
      exact h2

end Go.Proofs.YtgpbnbmjgcchfaaGreatDoor

/- A row of redexes of one's own; what All's second closure and swapRange do. -/
namespace Go.Proofs.YtgpbnbmjgcchfaaGreatDoor
open Go.RowKit Go.Maps Go.BigFrame

def rxV (x : Rx) : Value × Value := (.int .i64 x.1, .int .i64 x.2)

def RxOk (d : List Rx) : Prop := ∀ x ∈ d, (-9223372036854775808 ≤ x.1 ∧ x.1 ≤ 9223372036854775807) ∧ -9223372036854775808 ≤ x.2 ∧ x.2 ≤ 9223372036854775807

/-- The slice value v is the call's own and holds the redexes d. -/
def OX (w : World) (base : Nat) (v : Value) (d : List Rx) : Prop := RxOk d ∧ w.ownsRow base 32 2 v d.length (prC (d.map rxV))

theorem OX.shape {w : World} {base : Nat} {v : Value} {d : List Rx} (h : OX w base v d) : ∃ ao cap, v = .slice ao d.length cap ∧ d.length ≤ cap ∧ cap ≤ maxLen := by
  rcases h.2.2 with ⟨rfl, hn⟩ | ⟨g, cap, cur, rfl, hb, hg, hc, hm, hs, ht⟩
  · exact ⟨none, 0, by rw [hn], by omega, by simp [maxLen]⟩
  · exact ⟨_, cap, rfl, hc, hm⟩

theorem OX.kept {w w' : World} {base : Nat} {v : Value} {d : List Rx} {row : Option Nat} (h : OX w base v d) (hg : w.grownBy w' row) (hr : v.ownBlock = none ∨ v.ownBlock ≠ row) : OX w' base v d := by
  refine ⟨h.1, h.2.1, ?_⟩
  rcases h.2.2 with h | ⟨g, cap, cur, rfl, hb, hgg, r⟩
  · exact .inl h
  · refine .inr ⟨g, cap, cur, rfl, hb, (hg.block g (Array.getElem?_eq_some_iff.1 hgg).1 ?_).trans hgg, r⟩
    rcases hr with hr | hr
    · cases hr
    · exact hr

theorem OX.later {w w' : World} {base : Nat} {v : Value} {d : List Rx} (h : OX w base v d) (hb : Below w.heap.size w w') : OX w' base v d :=
  h.kept (row := none) (grown_of_below hb none) (by cases hv : v.ownBlock <;> simp)

theorem OX.head {w : World} {base n : Nat} {v : Value} {d : List Rx} (h : OX w base v d) (hn : n < d.length) : ∃ g cap, v = .slice (some ⟨g, 0, none⟩) d.length cap ∧ base ≤ g ∧ g < w.heap.size ∧ d.length ≤ cap ∧ cap ≤ 9223372036854775807 := by
  rcases h.2.2 with ⟨rfl, h0⟩ | ⟨g, cap, cur, rfl, hb, hg, hc, hm, hs, ht⟩
  · omega
  · exact ⟨g, cap, rfl, hb, (Array.getElem?_eq_some_iff.1 hg).1, hc, by unfold maxLen at hm; omega⟩

theorem OX.at {w : World} {base g cap : Nat} {d : List Rx} (h : OX w base (.slice (some ⟨g, 0, none⟩) d.length cap) d) {i : Nat} {x : Rx} (hx : d[i]? = some x) :
    w.cell? ⟨g, i * 2, none⟩ = some (.int .i64 x.1) ∧ w.cell? ⟨g, i * 2 + 1, none⟩ = some (.int .i64 x.2) ∧ w.frozen? ⟨g, i * 2, none⟩ = false ∧ w.frozen? ⟨g, i * 2 + 1, none⟩ = false :=
  own_cells2 (p := rxV x) h.2 (by simp) (by rw [List.getElem?_map, hx]; rfl)

/-- Two change their places. -/
def swp (d : List Rx) (i j : Nat) (x y : Rx) : List Rx := (d.set i y).set j x

theorem swp_len (d : List Rx) (i j : Nat) (x y : Rx) : (swp d i j x y).length = d.length := by unfold swp; simp

theorem OX.swap {w X : World} {base g cap : Nat} {d : List Rx} (h : OX w base (.slice (some ⟨g, 0, none⟩) d.length cap) d) {i j : Nat} {x y : Rx} (hx : d[i]? = some x) (hy : d[j]? = some y)
    (hX : ((((w.setCell ⟨g, i * 2, none⟩ (.int .i64 y.1)).setCell ⟨g, i * 2 + 1, none⟩ (.int .i64 y.2)).setCell ⟨g, j * 2, none⟩ (.int .i64 x.1)).setCell ⟨g, j * 2 + 1, none⟩ (.int .i64 x.2)).drew = X) :
    OX X base (.slice (some ⟨g, 0, none⟩) d.length cap) (swp d i j x y) ∧ w.grownBy X (some g) := by
  obtain ⟨x1, x2, x3, _⟩ := own_swap2 (p := rxV x) (q := rxV y) h.2 hX
  refine ⟨⟨fun z hz => ?_, ?_⟩, ?_⟩
  · unfold swp at hz
    rcases List.mem_or_eq_of_mem_set hz with hz | rfl
    · rcases List.mem_or_eq_of_mem_set hz with hz | rfl
      · exact h.1 z hz
      · exact h.1 _ (List.mem_of_getElem? hy)
    · exact h.1 _ (List.mem_of_getElem? hx)
  · rw [swp_len]
    unfold swp
    rw [List.map_set, List.map_set]
    exact x1
  · subst hX
    exact ⟨rfl, rfl, rfl, by simp, fun k _ hk => x3 k (fun e => hk (by rw [e]))⟩

def cmpZ8 (a b : Int) : Int := if a < b then -1 else if b < a then 1 else 0

theorem cmpZ8_lt (a b : Int) : decide (cmpZ8 a b < 0) = decide (a < b) := by
  unfold cmpZ8
  by_cases h : a < b
  · simp [h]
  · by_cases h2 : b < a
    · simp [h, h2]
    · simp [h, h2]

set_option maxRecDepth 100000 in
theorem cmpInt8_any (a b : Int) (w : World) : Calls Tryz.prog 34 #[.int .i64 a, .int .i64 b] w fun e w' => e = .returned (.int .i64 (cmpZ8 a b)) ∧ w' = w := by
  by_cases h1 : a < b
  · go_enter Tryz.func34, Tryz.ntmps34
    go_wp2
    go_ret
    exact ⟨ret1i (by simp [cmpZ8, h1]), rfl⟩
  · by_cases h2 : b < a
    · go_enter Tryz.func34, Tryz.ntmps34
      go_wp2
      go_ret
      exact ⟨ret1i (by simp [cmpZ8, h1, h2]), rfl⟩
    · go_enter Tryz.func34, Tryz.ntmps34
      go_wp2
      go_ret
      exact ⟨ret1i (by rw [cmpZ8, if_neg (by omega), if_neg (by omega)]), rfl⟩

/-- All's second closure. -/
abbrev cmpF : Value := .func (.func 33) #[] #[]

set_option maxRecDepth 100000 in
theorem cmpClosure_any (x y : Rx) (w : World) : Calls Tryz.prog 33 #[.agg #[.int .i64 x.1, .int .i64 x.2], .agg #[.int .i64 y.1, .int .i64 y.2]] w fun e w' => e = .returned (.int .i64 (cmpZ8 x.1 y.1)) ∧ Below w.heap.size w w' := by
  obtain ⟨w0, hw0⟩ : ∃ X, X = (w.alloc (.cells #[.int .i64 x.1, .int .i64 x.2] 32)).alloc (.cells #[.int .i64 y.1, .int .i64 y.2] 32) := ⟨_, rfl⟩
  have C0 : Hid (Below w.heap.size w w0) := by rw [hw0]; exact below_step (below_alloc _) (below_alloc _)
  go_enter Tryz.func33, Tryz.ntmps33
  go_wp2_with fail
  rw [← hw0]
  clear hw0
  refine (cmpInt8_any _ _ w0).mono ?_
  rintro e w1 ⟨rfl, hw1⟩
  have hw8 := hw1.symm
  subst hw8
  clear hw1
  go_wp2
  go_ret
  exact ⟨rfl, C0.out⟩

end Go.Proofs.YtgpbnbmjgcchfaaGreatDoor

/- swapRange and rotate at redexes walked. -/
namespace Go.Proofs.YtgpbnbmjgcchfaaGreatDoor
open Go.RowKit Go.Maps Go.BigFrame

/-- A swap of two places between which M lies. -/
theorem swp_mid {X M Y : List Rx} {x y : Rx} {i j : Nat} (hi : i = X.length) (hj : j = X.length + 1 + M.length) : swp (X ++ x :: M ++ y :: Y) i j x y = X ++ y :: M ++ x :: Y := by
  subst hi hj
  unfold swp
  rw [List.append_assoc, List.set_append_right _ _ (Nat.le_refl _), Nat.sub_self, List.cons_append, List.set_cons_zero, List.set_append_right _ _ (by omega), show X.length + 1 + M.length - X.length = M.length + 1 by omega, List.set_cons_succ, List.set_append_right _ _ (Nat.le_refl _), Nat.sub_self, List.set_cons_zero, List.append_assoc, List.cons_append]

set_option maxRecDepth 100000 in
set_option maxHeartbeats 1600000 in
theorem swapRange_any (g cap base P Q L n : Nat) (X A M B Y : List Rx) (w : World) (cv : Value) (hA : A.length = n) (hB : B.length = n) (hP : X.length = P) (hQ : P + n + M.length = Q) (hL : Q + n + Y.length = L) (h : OX w base (.slice (some ⟨g, 0, none⟩) L cap) (X ++ A ++ M ++ B ++ Y)) (hc : L ≤ cap) (hc2 : cap ≤ 9223372036854775807) :
    Calls Tryz.prog 112 #[.slice (some ⟨g, 0, none⟩) L cap, .int .i64 (P : Int), .int .i64 (Q : Int), .int .i64 (n : Int), cv] w fun e w' => e = .returned (.tuple #[]) ∧ OX w' base (.slice (some ⟨g, 0, none⟩) L cap) (X ++ B ++ M ++ A ++ Y) ∧ w.grownBy w' (some g) := by
  have HO := hid h
  clear h
  go_enter Tryz.func112, Tryz.ntmps112
  go_wp2
  go_loopw [10] (fun iv wr => ∃ k : Nat, k ≤ n ∧ iv = .int .i64 k ∧ OX wr base (.slice (some ⟨g, 0, none⟩) L cap) (X ++ (B.take k ++ A.drop k) ++ M ++ (A.take k ++ B.drop k) ++ Y) ∧ w.grownBy wr (some g)) (fun iv _ => n - (intOf iv).toNat)
  case atStart => exact ⟨0, Nat.zero_le _, rfl, by simpa using HO.out, World.grownBy.refl _ _⟩
  case round =>
    obtain ⟨k, hk, rfl, how, hgr⟩ := hrel
    have HW := hid how
    have HG := hid hgr
    clear how hgr
    by_cases hlt : k < n
    · obtain ⟨x, hx⟩ : ∃ x, A[k]? = some x := ⟨_, List.getElem?_eq_getElem (by omega)⟩
      obtain ⟨y, hy⟩ : ∃ y, B[k]? = some y := ⟨_, List.getElem?_eq_getElem (by omega)⟩
      have e1 : X ++ (B.take k ++ A.drop k) ++ M ++ (A.take k ++ B.drop k) ++ Y = (X ++ B.take k) ++ x :: (A.drop (k + 1) ++ M ++ A.take k) ++ y :: (B.drop (k + 1) ++ Y) := by
        rw [drop_get hx, drop_get hy]
        simp
      have e2 : X ++ (B.take (k + 1) ++ A.drop (k + 1)) ++ M ++ (A.take (k + 1) ++ B.drop (k + 1)) ++ Y = (X ++ B.take k) ++ y :: (A.drop (k + 1) ++ M ++ A.take k) ++ x :: (B.drop (k + 1) ++ Y) := by
        rw [take_get hx, take_get hy]
        simp
      have hw := HW.out
      rw [e1] at hw
      obtain ⟨D, hD⟩ : ∃ D, D = (X ++ B.take k) ++ x :: (A.drop (k + 1) ++ M ++ A.take k) ++ y :: (B.drop (k + 1) ++ Y) := ⟨_, rfl⟩
      have hlD : D.length = L := by rw [hD]; simp [hA, hB, hP]; omega
      have g1 : D[P + k]? = some x := by
        rw [hD, List.append_assoc, List.getElem?_append_right (by simp [hP, hB]; omega)]
        have : P + k - (X ++ B.take k).length = 0 := by simp [hP, hB]; omega
        rw [this]
        rfl
      have g2 : D[Q + k]? = some y := by
        rw [hD, List.getElem?_append_right (by simp [hP, hA, hB]; omega)]
        have : Q + k - (X ++ B.take k ++ x :: (A.drop (k + 1) ++ M ++ A.take k)).length = 0 := by simp [hP, hA, hB]; omega
        rw [this]
        rfl
      have hsw : swp D (P + k) (Q + k) x y = X ++ (B.take (k + 1) ++ A.drop (k + 1)) ++ M ++ (A.take (k + 1) ++ B.drop (k + 1)) ++ Y := by
        rw [hD, e2]
        exact swp_mid (by simp [hP, hB]; omega) (by simp [hP, hA, hB]; omega)
      rw [← hD] at hw
      have hw2 := hw
      rw [← hlD] at hw2
      obtain ⟨i1, i2, i3, i4⟩ := hw2.at g1
      obtain ⟨j1, j2, j3, j4⟩ := hw2.at g2
      have HSw : Hid (∀ Z, ((((wr.setCell ⟨g, (P + k) * 2, none⟩ (.int .i64 y.1)).setCell ⟨g, (P + k) * 2 + 1, none⟩ (.int .i64 y.2)).setCell ⟨g, (Q + k) * 2, none⟩ (.int .i64 x.1)).setCell ⟨g, (Q + k) * 2 + 1, none⟩ (.int .i64 x.2)).drew = Z → OX Z base (.slice (some ⟨g, 0, none⟩) L cap) (X ++ (B.take (k + 1) ++ A.drop (k + 1)) ++ M ++ (A.take (k + 1) ++ B.drop (k + 1)) ++ Y) ∧ wr.grownBy Z (some g)) := fun Z hZ => by
        have h9 := hw2.swap g1 g2 hZ
        rw [hsw, hlD] at h9
        exact h9
      have hw1 : IntKind.i64.wrap ((P : Int) + (k : Int)) = ((P + k : Nat) : Int) := by rw [IntWalk.i64_in _ ⟨by omega, by omega⟩]; omega
      have hw3 : IntKind.i64.wrap ((Q : Int) + (k : Int)) = ((Q + k : Nat) : Int) := by rw [IntWalk.i64_in _ ⟨by omega, by omega⟩]; omega
      have hb1 : P + k < L := by omega
      have hb2 : Q + k < L := by omega
      obtain ⟨I, hI⟩ : ∃ I, I = P + k := ⟨_, rfl⟩
      obtain ⟨J, hJ⟩ : ∃ J, J = Q + k := ⟨_, rfl⟩
      have hIJ : ¬ I = J := by omega
      rw [← hI] at i1 i2 i3 i4 HSw hw1 hb1
      rw [← hJ] at j1 j2 j3 j4 HSw hw3 hb2
      have hn1 : ¬ J = I := by omega
      have hn2 : ¬ I * 2 = J * 2 := by omega
      have hn3 : ¬ J * 2 = I * 2 := by omega
      clear hI hJ hw hw2 hlD hD g1 g2 hsw e1 e2 hx hy
      go_wp2
      go_region
      generalize hZ : World.drew _ = Z
      obtain ⟨o9, g9⟩ := HSw.out _ hZ
      have O9 := hid o9
      have G9 := hid (HG.out.trans g9)
      clear hZ o9 g9 HSw i1 i2 i3 i4 j1 j2 j3 j4
      go_wp2
      go_roundw
      case rel => exact ⟨k + 1, hlt, by go_num, O9.out, G9.out⟩
      case measure => simp only [intOf]; omega
    · obtain rfl : k = n := by omega
      go_wp2
      go_end0
      have h9 := HW.out
      rw [List.take_of_length_le (by omega), List.drop_of_length_le (by omega), List.take_of_length_le (by omega), List.drop_of_length_le (by omega), List.append_nil, List.append_nil] at h9
      exact ⟨rfl, h9, HG.out⟩

set_option maxRecDepth 100000 in
set_option maxHeartbeats 1600000 in
theorem rotate_any (g cap base a m b L : Nat) (X U V Y : List Rx) (w : World) (cv : Value) (hX : X.length = a) (hU : a + U.length = m) (hV : m + V.length = b) (hL : b + Y.length = L) (hU0 : 0 < U.length) (hV0 : 0 < V.length) (h : OX w base (.slice (some ⟨g, 0, none⟩) L cap) (X ++ U ++ V ++ Y)) (hc : L ≤ cap) (hc2 : cap ≤ 9223372036854775807) :
    Calls Tryz.prog 100 #[.slice (some ⟨g, 0, none⟩) L cap, .int .i64 (a : Int), .int .i64 (m : Int), .int .i64 (b : Int), cv] w fun e w' => e = .returned (.tuple #[]) ∧ OX w' base (.slice (some ⟨g, 0, none⟩) L cap) (X ++ V ++ U ++ Y) ∧ w.grownBy w' (some g) := by
  have HO := hid h
  have hu : IntKind.i64.wrap ((m : Int) - (a : Int)) = ((U.length : Nat) : Int) := by rw [IntWalk.i64_in _ ⟨by omega, by omega⟩]; omega
  have hv : IntKind.i64.wrap ((b : Int) - (m : Int)) = ((V.length : Nat) : Int) := by rw [IntWalk.i64_in _ ⟨by omega, by omega⟩]; omega
  clear h
  go_enter Tryz.func100, Tryz.ntmps100
  go_wp2
  go_loopw [10, 11] (fun iv jv wr => ∃ (i j : Nat) (P A B Q : List Rx), iv = .int .i64 i ∧ jv = .int .i64 j ∧ A.length = i ∧ B.length = j ∧ 0 < i ∧ 0 < j ∧ a + P.length + i = m ∧ m + j + Q.length = b ∧ P ++ B ++ A ++ Q = V ++ U ∧ OX wr base (.slice (some ⟨g, 0, none⟩) L cap) (X ++ P ++ A ++ B ++ Q ++ Y) ∧ w.grownBy wr (some g)) (fun iv jv _ => (intOf iv).toNat + (intOf jv).toNat)
  case atStart => exact ⟨U.length, V.length, [], U, V, [], rfl, rfl, rfl, rfl, hU0, hV0, by simp; omega, by simp; omega, by simp, by simpa using HO.out, World.grownBy.refl _ _⟩
  case round =>
    obtain ⟨i, j, P, A, B, Q, rfl, rfl, hA, hB, hi0, hj0, hP, hQ, hVU, how, hgr⟩ := hrel
    clear hu hv
    have HW := hid how
    have HG := hid hgr
    have HVU := hid hVU
    clear how hgr hVU
    have hm1 : IntKind.i64.wrap ((m : Int) - (i : Int)) = ((a + P.length : Nat) : Int) := by rw [IntWalk.i64_in _ ⟨by omega, by omega⟩]; omega
    obtain ⟨S, hS⟩ : ∃ S, S = a + P.length := ⟨_, rfl⟩
    rw [← hS] at hm1
    have HE := hid (show (A.length = i ∧ B.length = j) ∧ a + P.length + i = m ∧ m + j + Q.length = b from ⟨⟨hA, hB⟩, hP, hQ⟩)
    by_cases hij : i = j
    · subst hij
      have hne : ((i : Int) != (i : Int)) = false := by simp
      have h1 := hid (swapRange_any g cap base S m L i (X ++ P) A [] B (Q ++ Y) wr cv hA hB (by simp; omega) (by simp; omega) (by simp; omega) (by simpa using HW.out) hc hc2)
      clear hA hB hP hQ hS hX hU hV hL
      go_wp2_with fail
      refine h1.out.mono ?_
      rintro e w1 ⟨rfl, o1, g1⟩
      have O1 : Hid (OX w1 base (.slice (some ⟨g, 0, none⟩) L cap) (X ++ V ++ U ++ Y)) := by
        have h9 := HVU.out
        show OX _ _ _ _
        rw [List.append_assoc X V U, ← h9]
        simpa using o1
      have G1 := hid (HG.out.trans g1)
      clear o1 g1 h1
      go_wp2
      go_end0
      exact ⟨rfl, O1.out, G1.out⟩
    · have hne : ((i : Int) != (j : Int)) = true := by rw [bne_iff_ne]; omega
      by_cases hgt : j < i
      · have hd : decide ((i : Int) > (j : Int)) = true := by simpa using hgt
        have h1 := hid (swapRange_any g cap base S m L j (X ++ P) (A.take j) (A.drop j) B (Q ++ Y) wr cv (by rw [List.length_take]; omega) hB (by simp; omega) (by rw [List.length_drop]; omega) (by simp; omega) (by
          have h9 := HW.out
          rw [← List.take_append_drop j A] at h9
          simpa using h9) hc hc2)
        have hij2 : IntKind.i64.wrap ((i : Int) - (j : Int)) = ((i - j : Nat) : Int) := by rw [IntWalk.i64_in _ ⟨by omega, by omega⟩]; omega
        clear hA hB hP hQ hS hX hU hV hL
        go_wp2_with fail
        refine h1.out.mono ?_
        rintro e w1 ⟨rfl, o1, g1⟩
        have O1 := hid o1
        have G1 := hid (HG.out.trans g1)
        clear o1 g1 h1
        go_wp2
        go_roundw
        case rel =>
          obtain ⟨⟨hA, hB⟩, hP, hQ⟩ := HE.out
          exact ⟨i - j, j, P ++ B, A.drop j, A.take j, Q, by go_num, rfl, by rw [List.length_drop]; omega, by rw [List.length_take]; omega, by omega, hj0, by simp; omega, hQ, by rw [List.append_assoc (P ++ B), List.take_append_drop]; exact HVU.out, by simpa using O1.out, G1.out⟩
        case measure => simp only [intOf]; omega
      · have hd : decide ((i : Int) > (j : Int)) = false := by simpa using (show ¬ ((i : Int) > (j : Int)) by omega)
        have hm2 : IntKind.i64.wrap (IntKind.i64.wrap ((m : Int) + (j : Int)) - (i : Int)) = ((m + j - i : Nat) : Int) := by rw [IntWalk.i64_in ((m : Int) + j) ⟨by omega, by omega⟩, IntWalk.i64_in _ ⟨by omega, by omega⟩]; omega
        have hm3 : IntKind.i64.wrap ((m : Int) + (j : Int)) = ((m + j : Nat) : Int) := by rw [IntWalk.i64_in _ ⟨by omega, by omega⟩]; omega
        have hm4 : IntKind.i64.wrap (((m + j : Nat) : Int) - (i : Int)) = ((m + j - i : Nat) : Int) := by rw [← hm3]; exact hm2
        have h1 := hid (swapRange_any g cap base S (m + j - i) L i (X ++ P) A (B.take (j - i)) (B.drop (j - i)) (Q ++ Y) wr cv hA (by rw [List.length_drop]; omega) (by simp; omega) (by rw [List.length_take]; omega) (by simp; omega) (by
          have h9 := HW.out
          rw [← List.take_append_drop (j - i) B] at h9
          simpa using h9) hc hc2)
        have hij2 : IntKind.i64.wrap ((j : Int) - (i : Int)) = ((j - i : Nat) : Int) := by rw [IntWalk.i64_in _ ⟨by omega, by omega⟩]; omega
        generalize m + j - i = T at h1 hm2 hm4
        generalize m + j = T2 at hm3 hm4
        clear hm2 hA hB hP hQ hS hX hU hV hL
        go_wp2_with fail
        refine h1.out.mono ?_
        rintro e w1 ⟨rfl, o1, g1⟩
        have O1 := hid o1
        have G1 := hid (HG.out.trans g1)
        clear o1 g1 h1
        go_wp2
        go_roundw
        case rel =>
          obtain ⟨⟨hA, hB⟩, hP, hQ⟩ := HE.out
          exact ⟨i, j - i, P, B.drop (j - i), B.take (j - i), A ++ Q, rfl, by go_num, by rw [List.length_drop]; omega, by rw [List.length_take]; omega, hi0, by omega, hP, by simp; omega, by rw [List.append_assoc P, List.take_append_drop, ← List.append_assoc]; exact HVU.out, by simpa using O1.out, G1.out⟩
        case measure => simp only [intOf]; omega

end Go.Proofs.YtgpbnbmjgcchfaaGreatDoor

/- Merging rows that rise, plainly. -/
namespace Go.Proofs.YtgpbnbmjgcchfaaGreatDoor
open Go.RowKit Go.Maps

theorem Fil.perm {a b : List Rx} (h : Fil a b) : a.Perm b := by
  rw [List.perm_iff_count]
  intro x
  have hc : ∀ l : List Rx, l.count x = (fk x.1 l).count x := fun l => by
    unfold fk
    rw [List.count_filter (by simp)]
  rw [hc a, hc b, h x.1]

theorem Fil.len {a b : List Rx} (h : Fil a b) : a.length = b.length := h.perm.length_eq

theorem up_last {W : List Rx} (h : Up W) {i : Nat} {z x : Rx} (hz : W[i]? = some z) (hx : x ∈ W.take (i + 1)) : x.1 ≤ z.1 := by
  obtain ⟨k, hk⟩ := List.getElem?_of_mem hx
  have hl := (List.getElem?_eq_some_iff.1 hk).1
  rw [List.length_take] at hl
  rw [List.getElem?_take_of_lt (by omega)] at hk
  obtain ⟨h1, rfl⟩ := List.getElem?_eq_some_iff.1 hk
  obtain ⟨h2, rfl⟩ := List.getElem?_eq_some_iff.1 hz
  rcases Nat.lt_or_eq_of_le (show k ≤ i by omega) with h3 | h3
  · exact (List.pairwise_iff_getElem.1 h) k i h1 h2 h3
  · subst h3; exact Int.le_refl _

theorem up_first {W : List Rx} (h : Up W) {i : Nat} {z y : Rx} (hz : W[i]? = some z) (hy : y ∈ W.drop i) : z.1 ≤ y.1 := by
  obtain ⟨k, hk⟩ := List.getElem?_of_mem hy
  rw [List.getElem?_drop] at hk
  obtain ⟨h1, rfl⟩ := List.getElem?_eq_some_iff.1 hk
  obtain ⟨h2, rfl⟩ := List.getElem?_eq_some_iff.1 hz
  by_cases h3 : k = 0
  · subst h3; exact Int.le_refl _
  · exact (List.pairwise_iff_getElem.1 h) i (i + k) h2 h1 (by omega)

theorem Up.app {a b : List Rx} (ha : Up a) (hb : Up b) (h : ∀ x ∈ a, ∀ y ∈ b, x.1 ≤ y.1) : Up (a ++ b) := List.pairwise_append.2 ⟨ha, hb, h⟩
theorem Up.left {a b : List Rx} (h : Up (a ++ b)) : Up a := (List.pairwise_append.1 h).1
theorem Up.right {a b : List Rx} (h : Up (a ++ b)) : Up b := (List.pairwise_append.1 h).2.1
theorem Up.mid {a b : List Rx} (h : Up (a ++ b)) : ∀ x ∈ a, ∀ y ∈ b, x.1 ≤ y.1 := (List.pairwise_append.1 h).2.2

/-- What a merge makes. -/
def Mg (U V M : List Rx) : Prop := Up M ∧ Fil M (U ++ V)

theorem Mg.len {U V M : List Rx} (h : Mg U V M) : M.length = U.length + V.length := by rw [h.2.len, List.length_append]

theorem mg_halves {U1 U2 V1 V2 M1 M2 : List Rx} (hU : Up (U1 ++ U2)) (hV : Up (V1 ++ V2)) (hlt : ∀ x ∈ V1, ∀ y ∈ U2, x.1 < y.1) (hle : ∀ x ∈ U1, ∀ y ∈ V2, x.1 ≤ y.1) (h1 : Mg U1 V1 M1) (h2 : Mg U2 V2 M2) : Mg (U1 ++ U2) (V1 ++ V2) (M1 ++ M2) := by
  refine ⟨h1.1.app h2.1 fun x hx y hy => ?_, ?_⟩
  · rcases List.mem_append.1 (h1.2.mem.1 hx) with hx | hx <;> rcases List.mem_append.1 (h2.2.mem.1 hy) with hy | hy
    · exact hU.mid x hx y hy
    · exact hle x hx y hy
    · exact Int.le_of_lt (hlt x hx y hy)
    · exact hV.mid x hx y hy
  · refine (h1.2.app h2.2).trans ?_
    have h9 := ((Fil.refl U1).app (fil_swap (a := V1) (b := U2) (fun x hx y hy => by have := hlt x hx y hy; omega))).app (Fil.refl V2)
    simp only [List.append_assoc] at h9 ⊢
    exact h9

/-- One before many. -/
theorem mg_one_left {u : Rx} {V : List Rx} {n : Nat} (hV : Up V) (h1 : ∀ x ∈ V.take n, x.1 < u.1) (h2 : ∀ y ∈ V.drop n, u.1 ≤ y.1) : Mg [u] V (V.take n ++ u :: V.drop n) := by
  have hV2 : Up (V.take n ++ V.drop n) := by rw [List.take_append_drop]; exact hV
  refine ⟨hV2.left.app (b := u :: V.drop n) (List.pairwise_cons.2 ⟨h2, hV2.right⟩) fun x hx y hy => ?_, ?_⟩
  · rcases List.mem_cons.1 hy with rfl | hy
    · exact Int.le_of_lt (h1 x hx)
    · exact hV2.mid x hx y hy
  · have h9 := (fil_swap (a := V.take n) (b := [u]) (fun x hx y hy => by rw [List.mem_singleton] at hy; subst hy; have := h1 x hx; omega)).app (Fil.refl (V.drop n))
    simp only [List.append_assoc, List.take_append_drop, List.cons_append, List.nil_append] at h9 ⊢
    exact h9

/-- Many before one. -/
theorem mg_one_right {v : Rx} {U : List Rx} {n : Nat} (hU : Up U) (h1 : ∀ x ∈ U.take n, x.1 ≤ v.1) (h2 : ∀ y ∈ U.drop n, v.1 < y.1) : Mg U [v] (U.take n ++ v :: U.drop n) := by
  have hU2 : Up (U.take n ++ U.drop n) := by rw [List.take_append_drop]; exact hU
  refine ⟨hU2.left.app (b := v :: U.drop n) (List.pairwise_cons.2 ⟨fun y hy => Int.le_of_lt (h2 y hy), hU2.right⟩) fun x hx y hy => ?_, ?_⟩
  · rcases List.mem_cons.1 hy with rfl | hy
    · exact h1 x hx
    · exact hU2.mid x hx y hy
  · have h9 := (Fil.refl (U.take n)).app (fil_swap (a := [v]) (b := U.drop n) (fun x hx y hy => by rw [List.mem_singleton] at hx; subst hx; have := h2 y hy; omega))
    have e : U.take n ++ (U.drop n ++ [v]) = U ++ [v] := by rw [← List.append_assoc, List.take_append_drop]
    rw [e] at h9
    exact h9

theorem mg_nil_left {V : List Rx} (hV : Up V) : Mg [] V V := ⟨hV, Fil.refl _⟩
theorem mg_nil_right {U : List Rx} (hU : Up U) : Mg U [] U := ⟨hU, by rw [List.append_nil]; exact Fil.refl _⟩

end Go.Proofs.YtgpbnbmjgcchfaaGreatDoor

/- symMerge at redexes: a row of one ahead, or behind. -/
namespace Go.Proofs.YtgpbnbmjgcchfaaGreatDoor
open Go.RowKit Go.Maps Go.BigFrame

theorem OX.len {w : World} {base L cap : Nat} {ao : Option Addr} {d : List Rx} (h : OX w base (.slice ao L cap) d) : d.length = L := by
  obtain ⟨_, _, hv, _⟩ := h.shape
  simp only [Value.slice.injEq] at hv
  exact hv.2.1.symm

theorem OX.at2 {w : World} {base g L cap : Nat} {d : List Rx} (h : OX w base (.slice (some ⟨g, 0, none⟩) L cap) d) {i : Nat} {x : Rx} (hx : d[i]? = some x) :
    w.cell? ⟨g, i * 2, none⟩ = some (.int .i64 x.1) ∧ w.cell? ⟨g, i * 2 + 1, none⟩ = some (.int .i64 x.2) ∧ w.frozen? ⟨g, i * 2, none⟩ = false ∧ w.frozen? ⟨g, i * 2 + 1, none⟩ = false := by
  have hl := h.len
  subst hl
  exact h.at hx

theorem OX.swap2 {w : World} {base g L cap : Nat} {d d' : List Rx} (h : OX w base (.slice (some ⟨g, 0, none⟩) L cap) d) {i j : Nat} {x y : Rx} (hx : d[i]? = some x) (hy : d[j]? = some y) (hd : swp d i j x y = d') :
    ∀ Z, ((((w.setCell ⟨g, i * 2, none⟩ (.int .i64 y.1)).setCell ⟨g, i * 2 + 1, none⟩ (.int .i64 y.2)).setCell ⟨g, j * 2, none⟩ (.int .i64 x.1)).setCell ⟨g, j * 2 + 1, none⟩ (.int .i64 x.2)).drew = Z → OX Z base (.slice (some ⟨g, 0, none⟩) L cap) d' ∧ w.grownBy Z (some g) := fun Z hZ => by
  have hl := h.len
  subst hl
  subst hd
  exact h.swap hx hy hZ

set_option maxRecDepth 100000 in
set_option maxHeartbeats 3200000 in
theorem symLeft_any (g cap base a m b L : Nat) (X V Y : List Rx) (u : Rx) (w : World) (hX : X.length = a) (hm : a + 1 = m) (hV : m + V.length = b) (hL : b + Y.length = L) (hV0 : 0 < V.length) (hup : Up V) (h : OX w base (.slice (some ⟨g, 0, none⟩) L cap) (X ++ u :: V ++ Y)) (_hc : L ≤ cap) (_hc2 : cap ≤ 9223372036854775807) (hc3 : L ≤ 1152921504606846976) :
    Calls Tryz.prog 83 #[.slice (some ⟨g, 0, none⟩) L cap, .int .i64 (a : Int), .int .i64 (m : Int), .int .i64 (b : Int), cmpF] w fun e w' => ∃ M, e = .returned (.tuple #[]) ∧ Mg [u] V M ∧ OX w' base (.slice (some ⟨g, 0, none⟩) L cap) (X ++ M ++ Y) ∧ w.grownBy w' (some g) := by
  have HO := hid h
  have HUp := hid hup
  have hu : IntKind.i64.wrap ((m : Int) - (a : Int)) = 1 := by rw [IntWalk.i64_in _ ⟨by omega, by omega⟩]; omega
  have h11 : ((1 : Int) == 1) = true := rfl
  obtain ⟨D, hD⟩ : ∃ D, D = X ++ u :: V ++ Y := ⟨_, rfl⟩
  have hgu : D[a]? = some u := by rw [hD, List.append_assoc, List.getElem?_append_right (by omega), hX, Nat.sub_self]; rfl
  have hgv : ∀ k, m ≤ k → k < b → D[k]? = V[k - m]? := fun k h1 h2 => by
    rw [hD, List.append_assoc, List.getElem?_append_right (by omega), show k - X.length = (k - m) + 1 by omega, List.cons_append, List.getElem?_cons_succ, List.getElem?_append_left (by omega)]
  have HGu := hid hgu
  have HGv := hid hgv
  rw [← hD] at HO
  have HE := hid (show (X.length = a ∧ a + 1 = m ∧ m + V.length = b ∧ b + Y.length = L) ∧ D = X ++ u :: V ++ Y from ⟨⟨hX, hm, hV, hL⟩, hD⟩)
  have hmb : m < b := by omega
  have hbL : b ≤ L := by omega
  have hab : a < m := by omega
  have haL : a < L := by omega
  clear h hX hm hV hL hD hgu hgv hup
  go_enter Tryz.func83, Tryz.ntmps83
  go_wp2
  go_loopw [10, 11] (fun iv jv wr => ∃ (i j : Nat), iv = .int .i64 i ∧ jv = .int .i64 j ∧ m ≤ i ∧ i ≤ j ∧ j ≤ b ∧ (∀ z, m < i → D[i - 1]? = some z → z.1 < u.1) ∧ (∀ z, j < b → D[j]? = some z → u.1 ≤ z.1) ∧ Below w.heap.size w wr) (fun iv jv _ => (intOf jv).toNat - (intOf iv).toNat)
  case atStart => exact ⟨m, b, rfl, rfl, Nat.le_refl _, by omega, Nat.le_refl _, fun z h => by omega, fun z h => by omega, Below.refl _ _⟩
  case round =>
    obtain ⟨i, j, rfl, rfl, hi, hij, hj, hlo, hhi, hbl⟩ := hrel
    have HLo := hid hlo
    have HHi := hid hhi
    have HBl := hid hbl
    clear hlo hhi hbl hu
    by_cases hlt : i < j
    · have hd : decide ((i : Int) < (j : Int)) = true := by simpa using hlt
      obtain ⟨H, hH, hH1, hH2⟩ : ∃ H : Nat, ((i : Int) + (j : Int)) / 2 = (H : Int) ∧ i ≤ H ∧ H < j := ⟨(i + j) / 2, by omega, by omega, by omega⟩
      have HH := hid hH
      obtain ⟨z, hz⟩ : ∃ z, D[H]? = some z := ⟨_, List.getElem?_eq_getElem (by have := HO.out.len; omega)⟩
      have HZ := hid hz
      obtain ⟨i1, i2, _, _⟩ := (HO.out.later HBl.out).at2 hz
      obtain ⟨j1, j2, _, _⟩ := (HO.out.later HBl.out).at2 HGu.out
      have hHL : H < L := by omega
      clear hH hz
      go_wp2
      rw [HH.out]
      refine region_below (by kernel_rfl) (by kernel_rfl) ?_
      (go_big_quiet_want; go_big_quiet_op; go_big_quiet_on)
      (go_big_quiet_want; go_big_quiet_op; go_big_quiet_on)
      (go_big_quiet_want; go_big_quiet_op; go_big_quiet_on)
      go_big_quiet_want
      refine ⟨.pointer (some ⟨g, H * 2, none⟩), fun w' hw' => ?_, ?_⟩
      · unfold Oper.quietAt; go_simp
      simp only [Act.put, List.setIfInBounds_toArray, List.set_cons_zero, List.set_cons_succ]
      go_big_quiet_on
      go_big_quiet_want
      refine ⟨.agg #[.int .i64 z.1, .int .i64 z.2], fun w' hw' => ?_, ?_⟩
      · have hh0 := (Kp.of_below hw').cell _ _ i1; have hh1 := (Kp.of_below hw').cell _ _ i2; unfold Oper.quietAt; go_simp
      simp only [Act.put, List.setIfInBounds_toArray, List.set_cons_zero, List.set_cons_succ]
      go_big_quiet_on
      (go_big_quiet_want; go_big_quiet_op; go_big_quiet_on)
      (go_big_quiet_want; go_big_quiet_op; go_big_quiet_on)
      go_big_quiet_want
      refine ⟨.pointer (some ⟨g, a * 2, none⟩), fun w' hw' => ?_, ?_⟩
      · unfold Oper.quietAt; go_simp
      simp only [Act.put, List.setIfInBounds_toArray, List.set_cons_zero, List.set_cons_succ]
      go_big_quiet_on
      go_big_quiet_want
      refine ⟨.agg #[.int .i64 u.1, .int .i64 u.2], fun w' hw' => ?_, ?_⟩
      · have hh0 := (Kp.of_below hw').cell _ _ j1; have hh1 := (Kp.of_below hw').cell _ _ j2; unfold Oper.quietAt; go_simp
      simp only [Act.put, List.setIfInBounds_toArray, List.set_cons_zero, List.set_cons_succ]
      go_big_quiet_on
      go_big_quiet_want
      refine ⟨.int .i64 (cmpZ8 z.1 u.1), fun w' hw' => ?_, ?_⟩
      · unfold Oper.quietAt; go_simp; exact (cmpClosure_any z u w').mono (fun e w2 ⟨he, hb⟩ => ⟨he, below_step hw' hb⟩)
      simp only [Act.put, List.setIfInBounds_toArray, List.set_cons_zero, List.set_cons_succ]
      go_big_quiet_on
      go_big_quiet_want
      refine ⟨.bool (decide (cmpZ8 z.1 u.1 < 0)), fun w' hw' => ?_, ?_⟩
      · unfold Oper.quietAt; go_simp
      simp only [Act.put, List.setIfInBounds_toArray, List.set_cons_zero, List.set_cons_succ]
      go_big_quiet_on
      refine wpQuiet_nil ?_
      intro w5 hb5
      have HB5 := hid (below_step HBl.out hb5)
      clear hb5 i1 i2 j1 j2
      rw [cmpZ8_lt]
      by_cases hzu : z.1 < u.1
      · rw [decide_eq_true hzu]
        have HN : Hid (∀ y, m < H + 1 → D[H + 1 - 1]? = some y → y.1 < u.1) := fun y _ hy => by
          rw [Nat.add_sub_cancel, HZ.out] at hy
          cases hy
          exact hzu
        clear hzu
        go_wp2
        go_roundw
        case rel => exact ⟨H + 1, j, by go_num, rfl, by omega, by omega, hj, HN.out, HHi.out, HB5.out⟩
        case measure => simp only [intOf]; omega
      · rw [decide_eq_false hzu]
        have HN : Hid (∀ y, H < b → D[H]? = some y → u.1 ≤ y.1) := fun y _ hy => by
          rw [HZ.out] at hy
          cases hy
          omega
        clear hzu
        go_wp2
        go_roundw
        case rel => exact ⟨i, H, rfl, rfl, hi, by omega, by omega, HLo.out, HN.out, HB5.out⟩
        case measure => simp only [intOf]; omega
    · obtain rfl : i = j := by omega
      have HMg : Hid (Mg [u] V (V.take (i - m) ++ u :: V.drop (i - m))) := by
        obtain ⟨⟨hX, hm, hV, hL⟩, hD⟩ := HE.out
        refine mg_one_left HUp.out (fun x hx => ?_) (fun y hy => ?_)
        · by_cases h0 : i = m
          · rw [h0, Nat.sub_self] at hx; simp at hx
          · obtain ⟨z, hz⟩ : ∃ z, V[i - 1 - m]? = some z := ⟨_, List.getElem?_eq_getElem (by omega)⟩
            have h1 := HLo.out z (by omega) (by rw [HGv.out (i - 1) (by omega) (by omega)]; exact hz)
            have h2 := up_last HUp.out (x := x) hz (by rw [show i - 1 - m + 1 = i - m by omega]; exact hx)
            omega
        · by_cases h0 : i = b
          · rw [List.drop_of_length_le (by omega)] at hy; simp at hy
          · obtain ⟨z, hz⟩ : ∃ z, V[i - m]? = some z := ⟨_, List.getElem?_eq_getElem (by omega)⟩
            have h1 := HHi.out z (by omega) (by rw [HGv.out i (by omega) (by omega)]; exact hz)
            have h2 := up_first HUp.out (y := y) hz hy
            omega
      have hi1 : IntKind.i64.wrap ((i : Int) - 1) = ((i - 1 : Nat) : Int) := by rw [IntWalk.i64_in _ ⟨by omega, by omega⟩]; omega
      have hd : decide ((i : Int) < (i : Int)) = false := by simp
      have HO2 : Hid (OX wr base (.slice (some ⟨g, 0, none⟩) L cap) (X ++ V.take (a - a) ++ u :: V.drop (a - a) ++ Y)) := by
        obtain ⟨_, hD⟩ := HE.out
        have h9 := HO.out.later HBl.out
        rw [hD] at h9
        show OX _ _ _ _
        simpa using h9
      have HG2 := hid (grown_of_below HBl.out (some g))
      obtain ⟨I, hI⟩ : ∃ I, I = i - 1 := ⟨_, rfl⟩
      rw [← hI] at hi1
      have HI := hid hI
      have haI : a ≤ I := by omega
      have hIb : I < b := by omega
      clear hI HLo HHi
      go_wp2
      go_loopw [13] (fun kv wr => ∃ k : Nat, kv = .int .i64 k ∧ a ≤ k ∧ k ≤ I ∧ OX wr base (.slice (some ⟨g, 0, none⟩) L cap) (X ++ V.take (k - a) ++ u :: V.drop (k - a) ++ Y) ∧ w.grownBy wr (some g)) (fun kv _ => I - (intOf kv).toNat)
      case atStart => exact ⟨a, rfl, Nat.le_refl _, haI, HO2.out, HG2.out⟩
      case round =>
        obtain ⟨k, rfl, hk1, hk2, how, hgr⟩ := hrel
        have HW := hid how
        have HG := hid hgr
        clear how hgr HO2 HG2
        by_cases hlt : k < I
        · have hdk : decide ((k : Int) < (I : Int)) = true := by simpa using hlt
          obtain ⟨⟨hX, hm, hV, hL⟩, hD⟩ := HE.out
          obtain ⟨x, hx⟩ : ∃ x, V[k - a]? = some x := ⟨_, List.getElem?_eq_getElem (by have := HI.out; omega)⟩
          have hw := HW.out
          rw [drop_get hx] at hw
          have g1 : (X ++ V.take (k - a) ++ u :: (x :: V.drop (k - a + 1)) ++ Y)[k]? = some u := by
            rw [List.append_assoc, List.getElem?_append_right (by simp [hX]; omega)]
            have : k - (X ++ V.take (k - a)).length = 0 := by simp [hX]; omega
            rw [this]
            rfl
          have g2 : (X ++ V.take (k - a) ++ u :: (x :: V.drop (k - a + 1)) ++ Y)[k + 1]? = some x := by
            rw [List.append_assoc, List.getElem?_append_right (by simp [hX]; omega)]
            have : k + 1 - (X ++ V.take (k - a)).length = 1 := by simp [hX]; omega
            rw [this]
            rfl
          obtain ⟨i1, i2, i3, i4⟩ := hw.at2 g1
          obtain ⟨j1, j2, j3, j4⟩ := hw.at2 g2
          have HSw := hid (hw.swap2 g1 g2 (d' := X ++ V.take (k + 1 - a) ++ u :: V.drop (k + 1 - a) ++ Y) (by
            rw [show k + 1 - a = k - a + 1 by omega, take_get hx]
            have h9 := swp_mid (X := X ++ V.take (k - a)) (M := []) (Y := V.drop (k - a + 1) ++ Y) (x := u) (y := x) (i := k) (j := k + 1) (by simp [hX]; omega) (by simp [hX]; omega)
            simp only [List.append_assoc, List.cons_append, List.nil_append] at h9 ⊢
            exact h9))
          have hk3 : IntKind.i64.wrap ((k : Int) + 1) = ((k + 1 : Nat) : Int) := by rw [IntWalk.i64_in _ ⟨by omega, by omega⟩]; omega
          have hkL : k < L := by omega
          have hkL2 : k + 1 < L := by have := HI.out; omega
          obtain ⟨J, hJ⟩ : ∃ J, J = k + 1 := ⟨_, rfl⟩
          rw [← hJ] at j1 j2 j3 j4 hk3 hkL2 HSw
          have hn0 : ¬ k = J := by omega
          have hn1 : ¬ J = k := by omega
          have hn2 : ¬ k * 2 = J * 2 := by omega
          have hn3 : ¬ J * 2 = k * 2 := by omega
          have HJ := hid hJ
          clear hX hm hV hL hD hx hw g1 g2 hJ
          go_wp2
          go_region
          generalize hZ : World.drew _ = Z
          obtain ⟨o9, g9⟩ := HSw.out _ hZ
          have O9 := hid o9
          have G9 := hid (HG.out.trans g9)
          clear hZ o9 g9 HSw i1 i2 i3 i4 j1 j2 j3 j4
          go_wp2
          go_roundw
          case rel => exact ⟨J, by have := HJ.out; go_num, by have := HJ.out; omega, by have := HJ.out; omega, O9.out, G9.out⟩
          case measure => have := HJ.out; simp only [intOf]; omega
        · have hdk : decide ((k : Int) < (I : Int)) = false := by simpa using hlt
          obtain rfl : k = I := by omega
          go_wp2
          (try simp only [Exit.inBlock, Exit.then])
          refine bodyPost_ret (results_none rfl _ _ _) rfl ?_
          refine ⟨_, rfl, HMg.out, ?_, HG.out⟩
          have h9 := HW.out
          rw [show k - a = i - m by obtain ⟨⟨hX, hm, hV, hL⟩, hD⟩ := HE.out; have := HI.out; omega] at h9
          simpa using h9

end Go.Proofs.YtgpbnbmjgcchfaaGreatDoor
