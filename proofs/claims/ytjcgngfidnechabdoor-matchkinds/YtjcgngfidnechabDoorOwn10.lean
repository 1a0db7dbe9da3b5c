/- Texts of the proof, one behind the other. -/
import Derived.Test.YtjcgngfidnechabDoorOwn9
import Derived.Test.YtjcgngfidnechabDoorOwn3
import Derived.Test.YtjcgngfidnechabDoorOwn7
import Derived.Test.YtjcgngfidnechabDoorOwn4
import Derived.Deep.Slices
import Derived.Ground.NamesProg
import Derived.Shelf.Sort.Plain
import Derived.Shelf.Slices.In.SortNone
import Derived.Sort.OwnSortedInts
import Derived.Test.YtjcgngfidnechabDoorOwn8
/- bindAlike and argumentPairs walked. -/
namespace Go.Proofs.YtjcgngfidnechabDoor
open Go.RowKit Go.Maps Go.BigFrame

theorem number_any (b o c q : Nat) (x : Int) (w : World) (h : w.cell? ⟨b, o + q, none⟩ = some (.int .i64 x)) (h1 : -9223372036854775808 ≤ x) (h2 : x ≤ 9223372036854775807) :
    Calls Tryd.prog 63 #[.agg #[cdS b o c q 1]] w fun e w' => e = .returned (.int .i64 (-1 - x)) ∧ Below w.heap.size w w' := by
  have hc := (Kp.of_below (below_alloc (w := w) (.cells #[cdS b o c q 1] 90))).cell _ _ h
  have hw : IntKind.i64.wrap (-1 - x) = -1 - x := IntWalk.i64_in _ ⟨by omega, by omega⟩
  unfold cdS at hc ⊢
  go_enter Tryd.func63, Tryd.ntmps63
  go_wp2
  go_ret
  exact ⟨rfl, below_alloc _⟩

theorem symbol_any (B b o c q n : Nat) (x : Int) (w : World) (h0 : w.cell? ⟨B, 0, none⟩ = some (cdS b o c q (1 + n))) (h : w.cell? ⟨b, o + q, none⟩ = some (.int .i64 x)) :
    Calls Tryd.prog 88 #[.pointer (some ⟨B, 0, none⟩)] w fun e w' => e = .returned (.int .i64 x) ∧ w' = w := by
  unfold cdS at h0
  have hn : 0 < 1 + n := by omega
  have hni : (0 : Int) < 1 + (n : Int) := by omega
  go_enter Tryd.func88, Tryd.ntmps88
  go_wp2
  go_ret
  exact ⟨rfl, rfl⟩

set_option maxHeartbeats 400000 in
theorem equalI_any (v u : Value) (xs ys : List Int) (w : World) (h : Is w v xs) (h' : Is w u ys) :
    Calls Tryd.prog 48 #[v, u] w fun e w' => e = .returned (.bool (decide (xs = ys))) ∧ ∃ n, w' = w.drewN n := by
  obtain ⟨ao, cap, rfl, hao, hca, hcl⟩ := h.flatI
  obtain ⟨bo, cap', rfl, hbo, hcb, hcl'⟩ := h'.flatI
  clear h h'
  by_cases hl : xs.length = ys.length
  · have hle : ((xs.length : Int) != ys.length) = false := by simp; omega
    go_enter Tryd.func48, Tryd.ntmps48
    go_wp2
    go_loopw [13] (fun i wr => ∃ k : Nat, k ≤ xs.length ∧ i = .int .i64 k ∧ xs.take k = ys.take k ∧ ∃ n, wr = w.drewN n) (fun i _ => xs.length - (intOf i).toNat)
    case atStart => exact ⟨0, Nat.zero_le _, rfl, rfl, 0, rfl⟩
    case round =>
      obtain ⟨k, hk, rfl, ht, n, rfl⟩ := hrel
      have HT : Hid (xs.take k = ys.take k) := ht
      clear ht
      by_cases hlt : k < xs.length
      · obtain ⟨g, off, x, rfl, hx1, hx3⟩ := hcl k hlt
        obtain ⟨g', off', y, rfl, hy1, hy3⟩ := hcl' k (by omega)
        have HX : Hid (xs[k]? = some x) := hx1
        have HY : Hid (ys[k]? = some y) := hy1
        have hlt' : k < ys.length := by omega
        clear hx1 hy1 hcl hcl'
        by_cases hxy : x = y
        · subst hxy
          have hxx : (x != x) = false := by simp
          go_wp2
          go_quiet (fail)
          go_wp2
          go_roundw
          case rel => exact ⟨k + 1, by omega, by go_num, by rw [take_get HX.out, take_get HY.out, HT.out], _, rfl⟩
          case measure => simp [intOf]; omega
        · have hne : (x != y) = true := by rw [bne_iff_ne]; exact hxy
          go_wp2
          go_quiet (fail)
          go_wp2
          go_ret
          exact ⟨ret1b (by rw [eq_comm, decide_eq_false_iff_not]; rintro rfl; have := HX.out.symm.trans HY.out; simp at this; exact hxy this), _, World.drewN_drewN _ _ _⟩
      · have hk' : k = xs.length := by omega
        go_wp2
        go_ret
        refine ⟨ret1b ?_, n, rfl⟩
        have := HT.out
        rw [List.take_of_length_le (by omega), List.take_of_length_le (by omega)] at this
        simp [this]
  · have hle : ((xs.length : Int) != ys.length) = true := by rw [bne_iff_ne]; omega
    go_enter Tryd.func48, Tryd.ntmps48
    go_wp2
    go_ret
    exact ⟨ret1b (by rw [eq_comm, decide_eq_false_iff_not]; rintro rfl; exact hl rfl), 0, rfl⟩

/-- What the map holds: rows of codes. -/
def Rows2 (w : World) (L : List (Int × Value)) (R : List (Int × List Int)) : Prop := L.map (·.1) = R.map (·.1) ∧ ∀ n v, L.lookup n = some v → ∃ u, R.lookup n = some u ∧ Is w v u

theorem zero_rowI (w : World) : (zeroValue 23).run Tryd.prog w = .ok (.slice none 0 0) w := by kernel_rfl
theorem under_mapI : Tryd.prog.underlying 63 = some (.map 3 23) := by kernel_rfl

set_option maxRecDepth 100000 in
set_option maxHeartbeats 800000 in
theorem bindAlike_any (b : Nat) (L : List (Int × Value)) (n : Int) (s : Value) (u : List Int) (w : World) (hm : MapV w b L) (hs : Is w s u) (hL : ∀ v, L.lookup n = some v → ∃ u', Is w v u') (h1 : -9223372036854775808 ≤ n) (h2 : n ≤ 9223372036854775807) (hl : L.length < maxLen) :
    Calls Tryd.prog 62 #[.map (some b), .int .i64 n, s] w fun e w' =>
      (L.lookup n = none ∧ e = .returned (.bool true) ∧ MapV w' b ((n, s) :: L) ∧ w.grownBy w' (some b)) ∨
      (∃ v u', L.lookup n = some v ∧ Is w v u' ∧ e = .returned (.bool (decide (u' = u))) ∧ ∃ k, w' = w.drewN k) := by
  have hlk := hm.look under_mapI (zero_rowI w) h1 h2
  have HM := hid hm
  have HS := hid hs
  cases hn : L.lookup n with
  | none =>
    rw [hn] at hlk
    simp only [Option.getD, Option.isSome] at hlk
    obtain ⟨w4, hr4, hm4, hg4⟩ := hm.store under_mapI h1 h2 hn hl s
    have HLk := hid hlk
    have HR4 := hid hr4
    have HM4 := hid hm4
    have HG4 := hid hg4
    clear hlk hr4 hm4 hg4 hm hs hL
    go_enter Tryd.func62, Tryd.ntmps62
    go_wp2_with (first
      | (at_lookup; refine wpList_lookup_run rfl _ _ _ _ rfl _ _ _ rfl rfl HLk.out ?_)
      | (at_mapUpdate; refine wpList_mapUpdate_run rfl _ _ _ _ rfl _ _ _ rfl rfl rfl HR4.out ?_))
    go_ret
    exact .inl ⟨trivial, rfl, HM4.out, HG4.out⟩
  | some v =>
    rw [hn] at hlk
    simp only [Option.getD, Option.isSome] at hlk
    obtain ⟨u', hu'⟩ := hL v hn
    have HLk := hid hlk
    have HU := hid hu'
    clear hlk hm hs hL hu'
    go_enter Tryd.func62, Tryd.ntmps62
    go_wp2_with (first
      | (at_lookup; refine wpList_lookup_run rfl _ _ _ _ rfl _ _ _ rfl rfl HLk.out ?_))
    refine (equalI_any v s u' u w HU.out HS.out).mono ?_
    rintro e w2 ⟨rfl, k, hw⟩

    go_wp2
    go_ret
    exact .inr ⟨v, u', rfl, HU.out, rfl, k, rfl⟩

/-- Pairs of trees. -/
def prC (xs : List (Value × Value)) : List Value := xs.flatMap fun p => [p.1, p.2]

theorem prC_len : ∀ xs : List (Value × Value), (prC xs).length = xs.length * 2
  | [] => rfl
  | p :: xs => by
    have := prC_len xs
    simp only [prC, List.flatMap_cons, List.length_append, List.length_cons, List.length_nil] at this ⊢
    omega

theorem prC_app (xs ys : List (Value × Value)) : prC (xs ++ ys) = prC xs ++ prC ys := by simp [prC, List.flatMap_append]

theorem prC_at : ∀ (xs : List (Value × Value)) (k : Nat) (p : Value × Value), xs[k]? = some p → (prC xs)[k * 2]? = some p.1 ∧ (prC xs)[k * 2 + 1]? = some p.2
  | [], k, p, h => by simp at h
  | q :: xs, 0, p, h => by
    simp only [List.getElem?_cons_zero, Option.some.injEq] at h
    subst h
    exact ⟨rfl, rfl⟩
  | q :: xs, k + 1, p, h => by
    rw [List.getElem?_cons_succ] at h
    have := prC_at xs k p h
    refine ⟨?_, ?_⟩
    · rw [show (k + 1) * 2 = k * 2 + 1 + 1 by omega]
      exact this.1
    · rw [show (k + 1) * 2 + 1 = k * 2 + 1 + 1 + 1 by omega]
      exact this.2

theorem info_pair : (Tryd.prog.info? 87).map (fun i => (i.zero, i.size, i.bytes)) = some (some (.agg #[.nilIface, .nilIface]), 2, 32) := by kernel_rfl
theorem under_pairs : Tryd.prog.underlying 88 = some (.slice 87) := by kernel_rfl

/-- A row of pairs of one's own. -/
def OwP (w : World) (base : Nat) (v : Value) (xs : List (Value × Value)) : Prop := w.ownsRow base 87 2 v xs.length (prC xs)

/-- Pairs joined to a row of pairs. -/
theorem join_pairs (ty : TypeId) {w : World} {base : Nat} {x : Value} {xs ys : List (Value × Value)} {ao : Option Addr} {cap : Nat} (ho : OwP w base x xs) (hr : ys = [] ∨ ∃ g off, ao = some ⟨g, off, none⟩ ∧ ∀ (j : Nat) (u : Value), (prC ys)[j]? = some u → w.cell? ⟨g, off + j, none⟩ = some u)
    (h1 : ∀ u ∈ prC ys, u.oneCell' = true) (hb : base ≤ w.heap.size) (hl : (xs.length + ys.length) * 32 ≤ 140737488355328) :
    ∃ v' w', (Builtin.append_ #[88, 88] ty #[x, .slice ao ys.length cap]).run Tryd.prog w = .ok v' w' ∧ OwP w' base v' (xs ++ ys) ∧ w.grownBy w' x.ownBlock ∧ (v'.ownBlock = x.ownBlock ∨ v'.ownBlock = some w.heap.size) := by
  obtain ⟨i0, hi, hz0, hz1, hz2⟩ := info_parts info_pair
  have hshape : ∃ bo bc, x = .slice bo xs.length bc ∧ xs.length ≤ bc := by
    rcases ho.2 with ⟨h8, h9⟩ | ⟨g8, c8, cur8, h8, _, _, h9, _⟩
    · exact ⟨none, 0, by rw [h8, h9], by omega⟩
    · exact ⟨_, c8, h8, h9⟩
  by_cases h0 : ys = []
  · subst h0
    obtain ⟨bo, bc, rfl, hbc⟩ := hshape
    refine ⟨_, w, run_append_nothing w 88 88 ty 87 i0 under_pairs hi _ xs.length bc hbc _ ?_, by rw [List.append_nil]; exact ho, World.grownBy.refl _ _, .inl rfl⟩
    cases ao with
    | none => exact Src.ofNil w under_pairs _
    | some a => exact Src.ofSlice w under_pairs a 0 _ [] (by simp) (fun j u hj => (by simp at hj)) (fun u hu => (by simp at hu))
  · obtain ⟨g, off, rfl, hc⟩ : ∃ g off, ao = some ⟨g, off, none⟩ ∧ ∀ (j : Nat) (u : Value), (prC ys)[j]? = some u → w.cell? ⟨g, off + j, none⟩ = some u := by
      rcases hr with hr | hr
      · exact absurd hr h0
      · exact hr
    obtain ⟨v', w', hr, g2, g3, _, g5⟩ := run_append_own_at (P := Tryd.prog) w base 88 ty 87 i0 _ 2 32 under_pairs hi hz0 hz1 hz2 rfl (by decide) x xs.length (prC xs) ho ⟨g, off, none⟩ ys.length cap (prC ys) (prC_len ys)
      (fun j u hj => by rw [Addr.add_lit]; exact hc j u hj) h1 (by unfold maxLen; omega) (by omega) hb
    refine ⟨v', w', hr, ?_, g3, g5⟩
    unfold OwP
    rw [List.length_append, prC_app]
    exact g2

end Go.Proofs.YtjcgngfidnechabDoor

/- areTerms of package match walked. -/
namespace Go.Proofs.YtjcgngfidnechabDoor
open Go.RowKit Go.Maps

def termsB (sig : List Sy) (l : List (List Int)) : Bool := l.all fun t => decide (termE sig t = 0)

theorem termsB_take {sig : List Sy} {l : List (List Int)} {k : Nat} {t : List Int} (h : l[k]? = some t) : termsB sig (l.take (k + 1)) = (termsB sig (l.take k) && decide (termE sig t = 0)) := by
  unfold termsB
  rw [take_get h, List.all_append]
  simp

theorem termsB_no {sig : List Sy} {l : List (List Int)} {k : Nat} {t : List Int} (h : l[k]? = some t) (hn : termE sig t ≠ 0) : termsB sig l = false := by
  unfold termsB
  rw [List.all_eq_false]
  exact ⟨t, List.mem_of_getElem? h, by simpa using hn⟩

set_option maxRecDepth 100000 in
set_option maxHeartbeats 800000 in
theorem areTerms_any (sv rv : Value) (sig : List Sy) (l : List (List Int)) (w : World) (hs : Sg w sv sig) (h : Rs w rv l) (hT : Tabs w) :
    Calls Tryd.prog 41 #[sv, rv] w fun e w' => e = .returned (.bool (termsB sig l)) ∧ Below w.heap.size w w' := by
  obtain ⟨ao, cap, rfl, hao, hca, _⟩ := Row.flat h
  unfold maxLen at hca
  have HS := hid hs
  have HR := hid h
  have HT := hid hT
  clear hs h hT
  go_enter Tryd.func41, Tryd.ntmps41
  go_wp2
  go_loopw [9] (fun i wr => ∃ k : Nat, k ≤ l.length ∧ i = .int .i64 k ∧ termsB sig (l.take k) = true ∧ Below w.heap.size w wr) (fun i _ => l.length - (intOf i).toNat)
  case atStart => exact ⟨0, Nat.zero_le _, rfl, rfl, Below.refl _ _⟩
  case round =>
    obtain ⟨k, hk, rfl, hall, hbl⟩ := hrel
    have HAll := hid hall
    have HB := hid hbl
    clear hall
    by_cases hlt : k < l.length
    · obtain ⟨g, off, a, t, c, rfl, hm, hc, hit, hl8⟩ := HR.out.at hlt
      have hcr := (Kp.of_below hbl).cell _ _ hc
      have HM := hid hm
      have HIt := hid (hit.kp (Kp.of_below hbl))
      clear hm hit hbl hc
      go_wp2_with fail
      refine (check_any _ _ sig t wr (HS.out.kp (Kp.of_below HB.out)) HIt.out (HT.out.below HB.out) hl8).mono ?_
      rintro e w2 ⟨rfl, hb2⟩
      have HB2 := hid (below_step HB.out hb2)
      clear hcr hb2
      by_cases h0 : termE sig t = 0
      · rw [h0]
        have HA2 : Hid (termsB sig (l.take (k + 1)) = true) := by show _ = _; rw [termsB_take HM.out, HAll.out, h0]; rfl
        clear h0
        go_wp2
        go_roundw
        case measure => simp only [intOf]; omega
        case rel => exact ⟨k + 1, hlt, by go_num, HA2.out, HB2.out⟩
      · have HN := hid (termsB_no HM.out h0)
        have hne : (termE sig t != 0) = true := by simpa using h0
        clear h0
        go_wp2
        go_ret
        exact ⟨by have h9 := HN.out; simp [h9], HB2.out⟩
    · have HF : Hid (termsB sig l = true) := by
        have h9 := HAll.out
        rw [List.take_of_length_le (by omega)] at h9
        exact h9
      go_wp2
      go_ret
      exact ⟨by have h9 := HF.out; simp [h9], HB.out⟩

end Go.Proofs.YtjcgngfidnechabDoor

/- slices.EqualFunc at rows of rows walked. -/
namespace Go.Proofs.YtjcgngfidnechabDoor
open Go.RowKit Go.Maps

set_option maxRecDepth 100000 in
set_option maxHeartbeats 800000 in
theorem equalR_any (v u : Value) (xs ys : List (List Int)) (w : World) (h : Rs w v xs) (h' : Rs w u ys) :
    Calls Tryd.prog 46 #[v, u, .func (.func 48) #[] #[]] w fun e w' => e = .returned (.bool (decide (xs = ys))) ∧ ∃ n, w' = w.drewN n := by
  obtain ⟨ao, cap, rfl, hao, hca, _⟩ := Row.flat h
  obtain ⟨bo, cap', rfl, hbo, hcb, _⟩ := Row.flat h'
  unfold maxLen at hca hcb
  have HX := hid h
  have HY := hid h'
  clear h h'
  by_cases hl : xs.length = ys.length
  · have hle : ((xs.length : Int) != ys.length) = false := by simp; omega
    have HL := hid hl
    clear hl
    go_enter Tryd.func46, Tryd.ntmps46
    go_wp2
    clear hle
    go_loopw [17] (fun i wr => ∃ k : Nat, k ≤ xs.length ∧ i = .int .i64 k ∧ xs.take k = ys.take k ∧ ∃ n, wr = w.drewN n) (fun i _ => xs.length - (intOf i).toNat)
    case atStart => exact ⟨0, Nat.zero_le _, rfl, rfl, 0, rfl⟩
    case round =>
      obtain ⟨k, hk, rfl, ht, n, rfl⟩ := hrel
      have HT : Hid (xs.take k = ys.take k) := ht
      clear ht
      by_cases hlt : k < xs.length
      · have hlt' : k < ys.length := by have := HL.out; omega
        obtain ⟨g, off, a1, x, c1, rfl, hx1, hx2, hx3, _⟩ := HX.out.at hlt
        obtain ⟨g', off', a2, y, c2, rfl, hy1, hy2, hy3, _⟩ := HY.out.at hlt'
        have hx2' : (w.drewN n).cell? ⟨g, off + k, none⟩ = some (.slice a1 x.length c1) := hx2
        have hy2' : (w.drewN n).cell? ⟨g', off' + k, none⟩ = some (.slice a2 y.length c2) := hy2
        have HXk := hid hx1
        have HYk := hid hy1
        have HIx := hid (hx3.kp (Kp.drewN w n))
        have HIy := hid (hy3.kp (Kp.drewN w n))
        clear hx1 hy1 hx3 hy3 hx2 hy2
        go_wp2_with fail
        refine (equalI_any _ _ x y _ HIx.out HIy.out).mono ?_
        rintro e w2 ⟨rfl, m, rfl⟩
        clear hx2' hy2'
        by_cases hxy : x = y
        · have hd : decide (x = y) = true := by simp [hxy]
          rw [hd]
          have HN : Hid (xs.take (k + 1) = ys.take (k + 1)) := by show _ = _; rw [take_get HXk.out, take_get HYk.out, HT.out, hxy]
          clear hd hxy
          go_wp2
          go_roundw
          case rel => exact ⟨k + 1, by omega, by go_num, HN.out, _, rfl⟩
          case measure => simp only [intOf]; omega
        · have hd : decide (x = y) = false := by simp [hxy]
          rw [hd]
          have HN : Hid (decide (xs = ys) = false) := by
            show _ = _
            rw [decide_eq_false_iff_not]
            rintro rfl
            have := HXk.out.symm.trans HYk.out
            simp at this
            exact hxy this
          clear hd hxy
          go_wp2
          go_ret
          exact ⟨ret1b HN.out.symm, _, rfl⟩
      · have HF : Hid (decide (xs = ys) = true) := by
          have h9 := HT.out
          rw [List.take_of_length_le (by omega), List.take_of_length_le (by have := HL.out; omega)] at h9
          show _ = _
          simp [h9]
        go_wp2
        go_ret
        exact ⟨ret1b HF.out.symm, n, rfl⟩
  · have hle : ((xs.length : Int) != ys.length) = true := by rw [bne_iff_ne]; omega
    have HN : Hid (decide (xs = ys) = false) := by
      show _ = _
      rw [decide_eq_false_iff_not]
      rintro rfl
      exact hl rfl
    clear hl
    go_enter Tryd.func46, Tryd.ntmps46
    go_wp2
    go_ret
    exact ⟨ret1b HN.out.symm, 0, rfl⟩

end Go.Proofs.YtjcgngfidnechabDoor

/- Binds of one's own: rows that are the call's or older ones; a bind joined, binds joined. -/
namespace Go.Proofs.YtjcgngfidnechabDoor
open Go.RowKit Go.Maps

theorem info_bind : (Tryd.prog.info? 39).map (fun i => (i.zero, i.size, i.bytes)) = some (some (.agg #[.int .i64 0, .slice none 0 0]), 2, 32) := by kernel_rfl
theorem under_binds : Tryd.prog.underlying 34 = some (.slice 39) := by kernel_rfl

def flatB (s : List Bd) (us : List Value) : List Value := (s.zip us).flatMap fun p => [.int .i64 p.1.1, p.2]

/-- A row of a bind: the call's own, or one that was there. -/
def RowB (w0 w : World) (u : Value) (t : List Int) : Prop := OwI w w0.heap.size u t ∨ Is w0 u t

theorem RowB.is {w0 w : World} {u : Value} {t : List Int} (h : RowB w0 w u t) (hb : Below w0.heap.size w0 w) : Is w u t := by
  rcases h with h | h
  · exact h.is
  · exact h.kp (Kp.of_below hb)

theorem RowB.one {w0 w : World} {u : Value} {t : List Int} (h : RowB w0 w u t) : u.oneCell' = true := by
  rcases h with h | h
  · obtain ⟨_, _, rfl, _⟩ := h.shape
    rfl
  · obtain ⟨_, _, rfl, _⟩ := h
    rfl

def EBd (w0 w : World) (u : Value) (b : Bd) : Prop := RowB w0 w u b.2 ∧ -9223372036854775808 ≤ b.1 ∧ b.1 ≤ 9223372036854775807 ∧ b.2.length * 8 ≤ 140737488351232

/-- The slice value v is the call's own and holds the binds s. -/
def OB (w0 w : World) (v : Value) (s : List Bd) : Prop :=
  ∃ us : List Value, us.length = s.length ∧ (∀ (i : Nat) (u : Value) (b : Bd), us[i]? = some u → s[i]? = some b → EBd w0 w u b) ∧ w.ownsRow w0.heap.size 39 2 v s.length (flatB s us)

theorem flatB_get : ∀ {s : List Bd} {us : List Value} {i : Nat} {b : Bd} {u : Value}, s[i]? = some b → us[i]? = some u → (flatB s us)[i * 2]? = some (.int .i64 b.1) ∧ (flatB s us)[i * 2 + 1]? = some u
  | [], _, i, _, _, h, _ => by simp at h
  | _ :: _, [], i, _, _, _, h => by simp at h
  | a :: s, v :: us, 0, b, u, h, k => by
    simp at h k
    subst h
    subst k
    exact ⟨by simp [flatB], by simp [flatB]⟩
  | a :: s, v :: us, i + 1, b, u, h, k => by
    rw [List.getElem?_cons_succ] at h k
    obtain ⟨h1, h2⟩ := flatB_get h k
    have e : flatB (a :: s) (v :: us) = .int .i64 a.1 :: v :: flatB s us := rfl
    rw [e]
    refine ⟨?_, ?_⟩
    · rw [show (i + 1) * 2 = i * 2 + 1 + 1 by omega]; simpa using h1
    · rw [show (i + 1) * 2 + 1 = i * 2 + 1 + 1 + 1 by omega]; simpa using h2

theorem flatB_len : ∀ {s : List Bd} {us : List Value}, us.length = s.length → (flatB s us).length = s.length * 2
  | [], us, h => by simp [flatB]
  | a :: s, [], h => by simp at h
  | a :: s, u :: us, h => by
    have e : flatB (a :: s) (u :: us) = .int .i64 a.1 :: u :: flatB s us := rfl
    rw [e, List.length_cons, List.length_cons, flatB_len (by simpa using h), List.length_cons]
    omega

theorem flatB_append : ∀ {s r : List Bd} {us vs : List Value}, us.length = s.length → flatB (s ++ r) (us ++ vs) = flatB s us ++ flatB r vs := by
  intro s r us vs h
  unfold flatB
  rw [List.zip_append h.symm, List.flatMap_append]

theorem flatB_one : ∀ {s : List Bd} {us : List Value}, (∀ u ∈ us, u.oneCell' = true) → ∀ c ∈ flatB s us, c.oneCell' = true
  | [], _, _, c, hc => by simp [flatB] at hc
  | _ :: _, [], _, c, hc => by simp [flatB] at hc
  | a :: s, u :: us, h, c, hc => by
    have e : flatB (a :: s) (u :: us) = .int .i64 a.1 :: u :: flatB s us := rfl
    rw [e] at hc
    cases hc with
    | head => rfl
    | tail _ hc =>
      cases hc with
      | head => exact h u (.head _)
      | tail _ hc => exact flatB_one (fun x hx => h x (.tail _ hx)) c hc

theorem OB.bs {w0 w : World} {v : Value} {s : List Bd} (h : OB w0 w v s) (hb : Below w0.heap.size w0 w) : Bs w v s := by
  obtain ⟨us, hl, hc, ho⟩ := h
  have ho2 := ho
  rcases ho2.2 with ⟨rfl, hn⟩ | ⟨g, cap, cur, rfl, hbg, hg, hcap, hm, hs, ht⟩
  · obtain rfl := List.eq_nil_of_length_eq_zero hn
    exact Row.nil (by simp [maxLen])
  · refine ⟨_, cap, rfl, hcap, hm, fun _ => ⟨g, 0, rfl, (Array.getElem?_eq_some_iff.1 hg).1, ?_⟩⟩
    intro k b hk
    have hlt : k < s.length := (List.getElem?_eq_some_iff.1 hk).1
    have hck : us[k]? = some us[k] := List.getElem?_eq_getElem (by omega)
    obtain ⟨h1, h2⟩ := flatB_get hk hck
    obtain ⟨o1, o2, o3, o4⟩ := hc k _ b hck hk
    refine ⟨o2, o3, o4, ?_, us[k], ?_, o1.is hb⟩
    · rw [Nat.zero_add, World.ownsRow.cellAt ho2 (k * 2) (by omega)]
      exact h1
    · rw [Nat.zero_add, World.ownsRow.cellAt ho2 (k * 2 + 1) (by omega)]
      exact h2

theorem RowB.later {w0 w w' : World} {u : Value} {t : List Int} (h : RowB w0 w u t) (hb : Below w.heap.size w w') : RowB w0 w' u t := by
  rcases h with h | h
  · exact .inl (h.later hb)
  · exact .inr h

theorem OB.later {w0 w w' : World} {v : Value} {s : List Bd} (h : OB w0 w v s) (hb : Below w.heap.size w w') : OB w0 w' v s := by
  obtain ⟨us, hl, hc, ho⟩ := h
  exact ⟨us, hl, fun i u b h1 h2 => ⟨(hc i u b h1 h2).1.later hb, (hc i u b h1 h2).2⟩, ownsRow_later ho hb⟩

theorem OB.empty (w0 w : World) (hb : w0.heap.size ≤ w.heap.size) : OB w0 (w.alloc (.cells #[] 39)) (.slice (some ⟨w.heap.size, 0, none⟩) 0 0) [] :=
  ⟨[], rfl, fun i c m h => (by simp at h), rfl, .inr ⟨w.heap.size, 0, #[], rfl, hb, heap_alloc_new _ _, Nat.le_refl _, Nat.zero_le _, rfl, rfl⟩⟩

theorem OB.shape {w0 w : World} {v : Value} {s : List Bd} (h : OB w0 w v s) : ∃ ao cap, v = .slice ao s.length cap ∧ s.length ≤ cap ∧ cap ≤ maxLen := by
  obtain ⟨us, hl, hc, ho⟩ := h
  rcases ho.2 with ⟨rfl, hn⟩ | ⟨g, cap, cur, rfl, hb, hg, hc, hm, hs, ht⟩
  · exact ⟨none, 0, by rw [hn], by omega, by simp [maxLen]⟩
  · exact ⟨_, cap, rfl, hc, hm⟩

/-- Binds in memory joined to one's own. -/
theorem OB.join (ty : TypeId) {w0 w : World} {v : Value} {s r : List Bd} {us : List Value} (h : OB w0 w v s) (hb : Below w0.heap.size w0 w) {g off cap : Nat} (_hr : 0 < r.length) (hu : us.length = r.length)
    (hcell : ∀ (j : Nat) (c : Value), (flatB r us)[j]? = some c → w.cell? ⟨g, off + j, none⟩ = some c) (hE : ∀ (i : Nat) (u : Value) (b : Bd), us[i]? = some u → r[i]? = some b → EBd w0 w u b) (hlen : (s.length + r.length) * 32 ≤ 140737488355328) :
    ∃ v' w', (Builtin.append_ #[34, 34] ty #[v, .slice (some ⟨g, off, none⟩) r.length cap]).run Tryd.prog w = .ok v' w' ∧ OB w0 w' v' (s ++ r) ∧ Below w0.heap.size w0 w' := by
  obtain ⟨i1, hi1, hy0, hy1, hy2⟩ := info_parts info_bind
  obtain ⟨vs, hl, hc, ho⟩ := h
  obtain ⟨v', w', hrun, h2, h3, _, _⟩ := run_append_own_at (P := Tryd.prog) w w0.heap.size 34 ty 39 i1 _ 2 32 under_binds hi1 hy0 hy1 hy2 rfl (by decide) v s.length (flatB s vs) ho ⟨g, off, none⟩ r.length cap (flatB r us) (by rw [flatB_len hu])
    (fun j c hj => by rw [Addr.add_lit]; exact hcell j c hj)
    (flatB_one fun u hu2 => by
      obtain ⟨i, hi, rfl⟩ := List.getElem_of_mem hu2
      obtain ⟨b, hbx⟩ : ∃ b, r[i]? = some b := ⟨_, List.getElem?_eq_getElem (by omega)⟩
      exact (hE i _ b (List.getElem?_eq_getElem hi) hbx).1.one) (by unfold maxLen; omega) (by omega) hb.size
  have hk : ∀ {u : Value} {t : List Int}, RowB w0 w u t → RowB w0 w' u t := fun {u t} hu => by
    rcases hu with hu | hu
    · exact .inl (hu.kept h3 (ownsRow_apart hu.2 ho (by decide)))
    · exact .inr hu
  refine ⟨v', w', hrun, ⟨vs ++ us, by rw [List.length_append, List.length_append, hl, hu], fun i u b h1 h4 => ?_, ?_⟩, hb.grown h3 hb.size (fun j hj => own_blk ho hj)⟩
  · by_cases hi : i < vs.length
    · rw [List.getElem?_append_left hi] at h1
      rw [List.getElem?_append_left (by omega)] at h4
      exact ⟨hk (hc i u b h1 h4).1, (hc i u b h1 h4).2⟩
    · rw [List.getElem?_append_right (by omega)] at h1
      rw [List.getElem?_append_right (by omega), ← hl] at h4
      exact ⟨hk (hE _ u b h1 h4).1, (hE _ u b h1 h4).2⟩
  · rw [List.length_append, flatB_append hl]
    exact h2

/-- One bind joined. -/
theorem OB.snoc (ty : TypeId) {w0 w : World} {v u : Value} {s : List Bd} {x : Int} {t : List Int} (h : OB w0 w v s) (hb : Below w0.heap.size w0 w) (hE : EBd w0 w u (x, t)) (hlen : (s.length + 1) * 32 ≤ 140737488355328) :
    ∃ v' w', (Builtin.append_ #[34, 34] ty #[v, .slice (some ⟨w.heap.size, 0, none⟩) 1 1]).run Tryd.prog (w.alloc (.cells #[.int .i64 x, u] 39)) = .ok v' w' ∧ OB w0 w' v' (s ++ [(x, t)]) ∧ Below w0.heap.size w0 w' := by
  have ha := below_alloc (w := w) (.cells #[.int .i64 x, u] 39)
  refine (h.later ha).join ty (r := [(x, t)]) (us := [u]) (below_step hb ha) (by simp) rfl (fun j c hj => ?_) (fun i u' b h1 h2 => ?_) (by simpa using hlen)
  · rw [Nat.zero_add, cell_of_row _ _ _ _ _ _ (heap_alloc_new _ _)]
    simpa [flatB] using hj
  · have hi : i = 0 := by
      have := (List.getElem?_eq_some_iff.1 h1).1
      simp at this
      omega
    subst hi
    simp at h1 h2
    subst h1
    subst h2
    exact ⟨hE.1.later ha, hE.2⟩

/-- Binds that were there joined. -/
theorem OB.old (ty : TypeId) {w0 w : World} {v u : Value} {s r : List Bd} (h : OB w0 w v s) (hb : Below w0.heap.size w0 w) (hr : Bs w0 u r) (hlen : (s.length + r.length) * 32 ≤ 140737488355328) :
    ∃ v' w', (Builtin.append_ #[34, 34] ty #[v, u]).run Tryd.prog w = .ok v' w' ∧ OB w0 w' v' (s ++ r) ∧ Below w0.heap.size w0 w' := by
  obtain ⟨i1, hi1, hy0, hy1, hy2⟩ := info_parts info_bind
  obtain ⟨ao, cap, rfl, hc, hm, hx⟩ := hr
  by_cases h0 : r.length = 0
  · obtain rfl : r = [] := List.eq_nil_of_length_eq_zero h0
    obtain ⟨bo, bc, rfl, hbc, _⟩ := h.shape
    refine ⟨_, w, run_append_nothing w 34 34 ty 39 i1 under_binds hi1 _ s.length bc hbc _ ?_, by rw [List.append_nil]; exact h, hb⟩
    cases ao with
    | none => exact Src.ofNil w under_binds _
    | some a => exact Src.ofSlice w under_binds a 0 _ [] (by simp) (fun j u hj => (by simp at hj)) (fun u hu => (by simp at hu))
  · obtain ⟨g, off, rfl, hg, hcell⟩ := hx (by omega)
    have each : ∀ i, i < r.length → ∃ u : Value, ∀ b, r[i]? = some b → w0.cell? ⟨g, off + i * 2, none⟩ = some (.int .i64 b.1) ∧ w0.cell? ⟨g, off + i * 2 + 1, none⟩ = some u ∧ EBd w0 w u b := fun i hi => by
      obtain ⟨b, hbx⟩ : ∃ b, r[i]? = some b := ⟨_, List.getElem?_eq_getElem hi⟩
      obtain ⟨h1, h2, h3, h4, u, h5, h6⟩ := hcell i b hbx
      refine ⟨u, fun b' hb' => ?_⟩
      rw [hbx] at hb'
      cases hb'
      exact ⟨h4, h5, .inr h6, h1, h2, h3⟩
    obtain ⟨q, hq⟩ := Deep.choose_lt each
    refine h.join ty (r := r) (us := (List.range r.length).map q) hb (by omega) (by simp) (fun j c hj => ?_) (fun i u b h1 h2 => ?_) hlen
    · have hjl := (List.getElem?_eq_some_iff.1 hj).1
      rw [flatB_len (by simp)] at hjl
      obtain ⟨b, hbx⟩ : ∃ b, r[j / 2]? = some b := ⟨_, List.getElem?_eq_getElem (by omega)⟩
      have hux : ((List.range r.length).map q)[j / 2]? = some (q (j / 2)) := by simp [List.getElem?_range (show j / 2 < r.length by omega)]
      obtain ⟨f1, f2⟩ := flatB_get hbx hux
      obtain ⟨c1, c2, _⟩ := hq (j / 2) (by omega) b hbx
      by_cases hpar : j % 2 = 0
      · rw [show j / 2 * 2 = j by omega] at f1 c1
        rw [f1] at hj
        cases hj
        exact (Kp.of_below hb).cell _ _ c1
      · rw [show j / 2 * 2 + 1 = j by omega] at f2
        rw [f2] at hj
        cases hj
        rw [show off + j / 2 * 2 + 1 = off + j by omega] at c2
        exact (Kp.of_below hb).cell _ _ c2
    · have hi := (List.getElem?_eq_some_iff.1 h2).1
      rw [List.getElem?_map, List.getElem?_range hi, Option.map_some, Option.some.injEq] at h1
      subst h1
      exact (hq i hi b h2).2.2

end Go.Proofs.YtjcgngfidnechabDoor

/- Binds whose rows are the call's own; a look into a map of rows. -/
namespace Go.Proofs.YtjcgngfidnechabDoor
open Go.RowKit Go.Maps

theorem MapV.lookOne {w : World} {b : Nat} {L : List (Int × Value)} (h : MapV w b L) {t e : TypeId} {z : Value} (ht : Tryd.prog.underlying t = some (.map 3 e)) (hz : (zeroValue e).run Tryd.prog w = .ok z w) {k : Int} (h1 : -9223372036854775808 ≤ k) (h2 : k ≤ 9223372036854775807) {u : Value} (hl : L.lookup k = some u) :
    (Instr.lookup t (.map (some b)) (.int .i64 k) false).run Tryd.prog w = .ok u w := by
  obtain ⟨D, hD, _, ha, hh⟩ := h
  obtain ⟨v, ps, hrun, hv⟩ := hD.lookup set_keyed ht hz (zd := .held z) (zp := []) rfl (key_int h1 h2)
  rw [hrun]
  have hv2 : D.atKey (.int .i64 k) (.held z) = .held v := by
    simp only [RV, Option.some.injEq, Prod.mk.injEq] at hv
    exact hv.1.symm
  rw [ha k u hl] at hv2
  rw [DataW.held.inj hv2]

/-- A bind whose row is the call's own. -/
def EBo (base : Nat) (w : World) (u : Value) (b : Bd) : Prop := OwI w base u b.2 ∧ -9223372036854775808 ≤ b.1 ∧ b.1 ≤ 9223372036854775807 ∧ b.2.length * 8 ≤ 140737488351232

/-- The slice value v is the call's own, as its rows are, and holds the binds s. -/
def OBW (base : Nat) (w : World) (v : Value) (s : List Bd) : Prop :=
  ∃ us : List Value, us.length = s.length ∧ (∀ (i : Nat) (u : Value) (b : Bd), us[i]? = some u → s[i]? = some b → EBo base w u b) ∧ w.ownsRow base 39 2 v s.length (flatB s us)

theorem OBW.mono {base b' : Nat} {w : World} {v : Value} {s : List Bd} (h : OBW base w v s) (hb : b' ≤ base) : OBW b' w v s := by
  obtain ⟨us, hl, hc, ho⟩ := h
  refine ⟨us, hl, fun i u b h1 h2 => ⟨(hc i u b h1 h2).1.mono hb, (hc i u b h1 h2).2⟩, ho.1, ?_⟩
  rcases ho.2 with h | ⟨g, cap, cur, rfl, hg, r⟩
  · exact .inl h
  · exact .inr ⟨g, cap, cur, rfl, by omega, r⟩

theorem OBW.later {base : Nat} {w w' : World} {v : Value} {s : List Bd} (h : OBW base w v s) (hb : Below w.heap.size w w') : OBW base w' v s := by
  obtain ⟨us, hl, hc, ho⟩ := h
  exact ⟨us, hl, fun i u b h1 h2 => ⟨(hc i u b h1 h2).1.later hb, (hc i u b h1 h2).2⟩, ownsRow_later ho hb⟩

theorem OBW.nil (base : Nat) (w : World) : OBW base w (.slice none 0 0) [] := ⟨[], rfl, fun i c m h => (by simp at h), World.ownsRow_nil _ _ _ _⟩

theorem OBW.bs {base : Nat} {w : World} {v : Value} {s : List Bd} (h : OBW base w v s) : Bs w v s := by
  obtain ⟨us, hl, hc, ho⟩ := h
  have ho2 := ho
  rcases ho2.2 with ⟨rfl, hn⟩ | ⟨g, cap, cur, rfl, hbg, hg, hcap, hm, hs, ht⟩
  · obtain rfl := List.eq_nil_of_length_eq_zero hn
    exact Row.nil (by simp [maxLen])
  · refine ⟨_, cap, rfl, hcap, hm, fun _ => ⟨g, 0, rfl, (Array.getElem?_eq_some_iff.1 hg).1, ?_⟩⟩
    intro k b hk
    have hlt : k < s.length := (List.getElem?_eq_some_iff.1 hk).1
    have hck : us[k]? = some us[k] := List.getElem?_eq_getElem (by omega)
    obtain ⟨h1, h2⟩ := flatB_get hk hck
    obtain ⟨o1, o2, o3, o4⟩ := hc k _ b hck hk
    refine ⟨o2, o3, o4, ?_, us[k], ?_, o1.is⟩
    · rw [Nat.zero_add, World.ownsRow.cellAt ho2 (k * 2) (by omega)]
      exact h1
    · rw [Nat.zero_add, World.ownsRow.cellAt ho2 (k * 2 + 1) (by omega)]
      exact h2

/-- One bind joined. -/
theorem OBW.snoc (ty : TypeId) {base : Nat} {w : World} {v u : Value} {s : List Bd} {x : Int} {t : List Int} (h : OBW base w v s) (hb : base ≤ w.heap.size) (hE : EBo base w u (x, t)) (hlen : (s.length + 1) * 32 ≤ 140737488355328) :
    ∃ v' w', (Builtin.append_ #[34, 34] ty #[v, .slice (some ⟨w.heap.size, 0, none⟩) 1 1]).run Tryd.prog (w.alloc (.cells #[.int .i64 x, u] 39)) = .ok v' w' ∧ OBW base w' v' (s ++ [(x, t)]) ∧ (w.alloc (.cells #[.int .i64 x, u] 39)).grownBy w' v.ownBlock ∧ (∀ j, v.ownBlock = some j → base ≤ j ∧ w.heap[j]? ≠ none ∧ ∃ cs, w.heap[j]? = some (.cells cs 39)) := by
  obtain ⟨i1, hi1, hy0, hy1, hy2⟩ := info_parts info_bind
  have ha := below_alloc (w := w) (.cells #[.int .i64 x, u] 39)
  have h' := h.later ha
  obtain ⟨us, hl, hc, ho0⟩ := h
  obtain ⟨vs, hl', hc', ho⟩ := h'
  have hone : u.oneCell' = true := by obtain ⟨_, _, rfl, _⟩ := hE.1.shape; rfl
  obtain ⟨v', w', hrun, h2, h3, _, _⟩ := run_append_own_at (P := Tryd.prog) (w.alloc (.cells #[.int .i64 x, u] 39)) base 34 ty 39 i1 _ 2 32 under_binds hi1 hy0 hy1 hy2 rfl (by decide) v s.length (flatB s vs) ho ⟨w.heap.size, 0, none⟩ 1 1 [.int .i64 x, u] rfl
    (fun j c hj => by
      rw [Addr.add_lit, Nat.zero_add, cell_of_row _ _ _ _ _ _ (heap_alloc_new _ _)]
      simpa using hj)
    (fun c hc => by
      simp only [List.mem_cons, List.not_mem_nil, or_false] at hc
      rcases hc with rfl | rfl
      · rfl
      · exact hone) (by unfold maxLen; omega) (by omega) (Nat.le_trans hb ha.size)
  have hk : ∀ {y : Value} {b : Bd}, EBo base (w.alloc (.cells #[.int .i64 x, u] 39)) y b → EBo base w' y b := fun {y b} hy => ⟨hy.1.kept h3 (ownsRow_apart hy.1.2 ho (by decide)), hy.2⟩
  refine ⟨v', w', hrun, ⟨vs ++ [u], by rw [List.length_append, List.length_append, hl']; rfl, fun i y b h1 h4 => ?_, ?_⟩, h3, fun j hj => ?_⟩
  · by_cases hi : i < vs.length
    · rw [List.getElem?_append_left hi] at h1
      rw [List.getElem?_append_left (by omega)] at h4
      exact hk (hc' i y b h1 h4)
    · rw [List.getElem?_append_right (by omega)] at h1
      rw [List.getElem?_append_right (by omega), ← hl'] at h4
      have hi : i - vs.length = 0 := by
        have := (List.getElem?_eq_some_iff.1 h1).1
        simp at this
        omega
      rw [hi] at h1 h4
      simp at h1 h4
      subst h1
      subst h4
      exact hk ⟨hE.1.later ha, hE.2⟩
  · rw [List.length_append, flatB_append hl']
    exact h2
  · rcases ho0.2 with ⟨rfl, _⟩ | ⟨g, cap, cur, rfl, hbg, hg, _⟩
    · cases hj
    · cases hj
      exact ⟨hbg, by rw [hg]; simp, cur, hg⟩

end Go.Proofs.YtjcgngfidnechabDoor

/- slices.Sort at []int laid; risingBinds of package match walked. -/
namespace Go.Proofs.YtjcgngfidnechabDoor
open Go.RowKit Go.Maps

def sortI (xs : List Int) : List Int := xs.mergeSort fun x y => decide (x ≤ y)

theorem sortI_len (xs : List Int) : (sortI xs).length = xs.length := by unfold sortI; simp

theorem sortI_mem (xs : List Int) (x : Int) : x ∈ sortI xs ↔ x ∈ xs := by unfold sortI; simp

def Tryd.sortLay_ren : Go.Shelf.Ren := ⟨fun | 189 => 69 | 125 => 91 | 257 => 90 | 128 => 107 | 129 => 108 | 294 => 98 | 295 => 99 | 296 => 100 | 297 => 101 | 298 => 102 | 299 => 103 | 216 => 104 | 300 => 105 | 301 => 106 | 328 => 111 | 329 => 112 | 330 => 113 | 331 => 114 | 332 => 115 | 215 => 116 | 343 => 117 | n => n, fun | 28 => 23 | 3 => 3 | 46 => 132 | 0 => 0 | 51 => 144 | 53 => 146 | 4 => 4 | 183 => 138 | 182 => 137 | 131 => 134 | 5 => 5 | 9 => 9 | 218 => 153 | 222 => 157 | 228 => 159 | 229 => 160 | n => n, fun | n => n⟩
theorem Tryd.sortLay : Go.Proofs.Lays.n189 Tryd.prog Tryd.sortLay_ren := {
  mixed := by kernel_rfl
  f125 := Tryd.func91.trans (congrArg some (by kernel_rfl))
  f128 := Tryd.func107.trans (congrArg some (by kernel_rfl))
  f129 := Tryd.func108.trans (congrArg some (by kernel_rfl))
  f189 := Tryd.func69.trans (congrArg some (by kernel_rfl))
  f215 := Tryd.func116.trans (congrArg some (by kernel_rfl))
  f216 := Tryd.func104.trans (congrArg some (by kernel_rfl))
  f257 := Tryd.func90.trans (congrArg some (by kernel_rfl))
  f294 := Tryd.func98.trans (congrArg some (by kernel_rfl))
  f295 := Tryd.func99.trans (congrArg some (by kernel_rfl))
  f296 := Tryd.func100.trans (congrArg some (by kernel_rfl))
  f297 := Tryd.func101.trans (congrArg some (by kernel_rfl))
  f298 := Tryd.func102.trans (congrArg some (by kernel_rfl))
  f299 := Tryd.func103.trans (congrArg some (by kernel_rfl))
  f300 := Tryd.func105.trans (congrArg some (by kernel_rfl))
  f301 := Tryd.func106.trans (congrArg some (by kernel_rfl))
  f328 := Tryd.func111.trans (congrArg some (by kernel_rfl))
  f329 := Tryd.func112.trans (congrArg some (by kernel_rfl))
  f330 := Tryd.func113.trans (congrArg some (by kernel_rfl))
  f331 := Tryd.func114.trans (congrArg some (by kernel_rfl))
  f332 := Tryd.func115.trans (congrArg some (by kernel_rfl))
  f343 := Tryd.func117.trans (congrArg some (by kernel_rfl))
  t0 := Tryd.underlying0
  a0 := Tryd.isAgg0
  z0 := Tryd.sizeOf0
  v0 := Tryd.zeroValue0
  t3 := Tryd.underlying3
  a3 := Tryd.isAgg3
  z3 := Tryd.sizeOf3
  v3 := Tryd.zeroValue3
  t4 := Tryd.underlying4
  a4 := Tryd.isAgg4
  z4 := Tryd.sizeOf4
  v4 := Tryd.zeroValue4
  t5 := Tryd.underlying5
  a5 := Tryd.isAgg5
  z5 := Tryd.sizeOf5
  v5 := Tryd.zeroValue5
  t9 := Tryd.underlying9
  a9 := Tryd.isAgg9
  z9 := Tryd.sizeOf9
  v9 := Tryd.zeroValue9
  t28 := Tryd.underlying23
  a28 := Tryd.isAgg23
  z28 := Tryd.sizeOf23
  v28 := Tryd.zeroValue23
  t46 := Tryd.underlying132
  a46 := Tryd.isAgg132
  z46 := Tryd.sizeOf132
  v46 := Tryd.zeroValue132
  t51 := Tryd.underlying144
  a51 := Tryd.isAgg144
  z51 := Tryd.sizeOf144
  v51 := Tryd.zeroValue144
  t53 := Tryd.underlying146
  a53 := Tryd.isAgg146
  z53 := Tryd.sizeOf146
  v53 := Tryd.zeroValue146
  t131 := Tryd.underlying134
  a131 := Tryd.isAgg134
  z131 := Tryd.sizeOf134
  v131 := Tryd.zeroValue134
  t182 := Tryd.underlying137
  a182 := Tryd.isAgg137
  z182 := Tryd.sizeOf137
  v182 := Tryd.zeroValue137
  t183 := Tryd.underlying138
  a183 := Tryd.isAgg138
  z183 := Tryd.sizeOf138
  v183 := Tryd.zeroValue138
  t218 := Tryd.underlying153
  a218 := Tryd.isAgg153
  z218 := Tryd.sizeOf153
  v218 := Tryd.zeroValue153
  t222 := Tryd.underlying157
  a222 := Tryd.isAgg157
  z222 := Tryd.sizeOf157
  v222 := Tryd.zeroValue157
  t228 := Tryd.underlying159
  a228 := Tryd.isAgg159
  z228 := Tryd.sizeOf159
  v228 := Tryd.zeroValue159
  t229 := Tryd.underlying160
  a229 := Tryd.isAgg160
  z229 := Tryd.sizeOf160
  v229 := Tryd.zeroValue160 }

set_option maxRecDepth 100000 in
set_option maxHeartbeats 800000 in
theorem sortI_any (v : Value) (xs : List Int) (w : World) (base : Nat) (ho : OwI w base v xs) (hn : xs.length < 4611686018427387904) :
    Calls Tryd.prog 69 #[v] w fun e w' => e = .returned (.tuple #[]) ∧ OwI w' base v (sortI xs) ∧ w.grownBy w' v.ownBlock := by
  have hz : ZI (sortI xs) := fun k x hk => by
    obtain ⟨j, hj⟩ := List.getElem?_of_mem ((sortI_mem xs x).1 (List.mem_of_getElem? hk))
    exact ho.1 j x hj
  rcases ho.2.2 with ⟨rfl, h0⟩ | ⟨g, cap, cur, rfl, hb, hg, hc, hm, hs, ht⟩
  · obtain rfl : xs = [] := List.eq_nil_of_length_eq_zero h0
    have hcon := Any.slices_Sort_int_none Tryd.sortLay none 0 w
    change Calls Tryd.prog 69 _ _ _ at hcon
    refine hcon.mono ?_
    rintro e w' ⟨rfl, rfl⟩
    exact ⟨rfl, by simpa [sortI] using ho, World.grownBy.refl _ _⟩
  · rw [Nat.mul_one] at ht
    have hcon := Any.slices_Sort_int Tryd.sortLay g 0 cap xs w (holds_of_blockI hg ht) (Array.getElem?_eq_some_iff.1 hg).1 hn
    change Calls Tryd.prog 69 _ _ _ at hcon
    refine hcon.mono ?_
    rintro e w' ⟨rfl, n, os, rfl⟩
    refine ⟨rfl, ⟨hz, ?_⟩, grownBy_sortedI _⟩
    have := ownsRow_sortedI (n := n) (os := os) (sortI_len xs) hb hg hc hm hs
    rw [sortI_len]
    exact this

set_option maxRecDepth 100000 in
set_option maxHeartbeats 1600000 in
theorem risingBinds_any (f : Int → Option (List Int)) (b : Nat) (L : List (Int × Value)) (vv : Value) (xs : List Int) (wB w : World) (hb0 : Below wB.heap.size wB w) (ho : OwI w wB.heap.size vv xs) (hm : MapV w b L) (hb : b < wB.heap.size)
    (hL : ∀ x ∈ xs, ∃ v u, L.lookup x = some v ∧ f x = some u ∧ Is wB v u ∧ 0 < u.length ∧ u.length * 8 ≤ 140737488351232) (hl : xs.length * 32 ≤ 140737488351232) :
    Calls Tryd.prog 44 #[vv, .map (some b)] w fun e w' => ∃ v', e = .returned v' ∧ OBW wB.heap.size w' v' ((sortI xs).map fun n => (n, (f n).getD [])) ∧ Below wB.heap.size wB w' := by
  have hlen := sortI_len xs
  obtain ⟨ys, hys⟩ : ∃ ys, ys = sortI xs := ⟨_, rfl⟩
  have hLy : ∀ x ∈ ys, ∃ v u, L.lookup x = some v ∧ f x = some u ∧ Is wB v u ∧ 0 < u.length ∧ u.length * 8 ≤ 140737488351232 := fun x hx => hL x (by rw [hys, sortI_mem] at hx; exact hx)
  have HO := hid ho
  have HM := hid hm
  have HL := hid hLy
  have HB0 := hid hb0
  have HYs := hid hys
  rw [← hys] at hlen ⊢
  have hl2 : ys.length * 32 ≤ 140737488351232 := by omega
  clear ho hm hL hb0 hLy
  go_enter Tryd.func44, Tryd.ntmps44
  go_wp2_with fail
  refine (sortI_any vv xs w _ HO.out (by omega)).mono ?_
  rintro e w1 ⟨rfl, ho1, hg1⟩
  rw [← hys] at ho1
  have hne : vv.ownBlock ≠ some b := fun h => by have := own_blk HO.out.2 h; omega
  have HM1 := hid (HM.out.kept hg1 hne)
  have HB1 : Hid (Below wB.heap.size wB w1) := HB0.out.grown hg1 HB0.out.size (fun j hj => own_blk HO.out.2 hj)
  obtain ⟨ao, cap, hvv, hc1, hc2⟩ := ho1.shape
  subst hvv
  have HO1 := hid ho1
  clear ho1 hg1 hne HO HM HB0 hys hlen hl
  unfold maxLen at hc2
  go_wp2
  go_loopw [5, 12] (fun x i wr => ∃ k : Nat, k ≤ ys.length ∧ i = .int .i64 k ∧ OBW wB.heap.size wr x ((ys.take k).map fun n => (n, (f n).getD [])) ∧ OwI wr wB.heap.size (.slice ao ys.length cap) ys ∧ MapV wr b L ∧ Below wB.heap.size wB wr) (fun _ i _ => ys.length - (intOf i).toNat)
  case atStart => exact ⟨0, Nat.zero_le _, rfl, OBW.nil _ _, HO1.out, HM1.out, HB1.out⟩
  case round =>
    obtain ⟨k, hk, rfl, hob, hov, hmr, hbr⟩ := hrel
    clear HO1 HM1 HB1
    by_cases hlt : k < ys.length
    · obtain ⟨g, off, y, rfl, hyk, hcy, hy1, hy2⟩ := hov.is.at hlt
      obtain ⟨v, u, hlk, hfu, hiv, hu0, hu8⟩ := HL.out y (List.mem_of_getElem? hyk)
      have hrl := hmr.lookOne under_mapI (zero_rowI wr) hy1 hy2 hlk
      have HRl := hid hrl
      have HOb := hid hob
      have HOv := hid hov
      have HMr := hid hmr
      have HBr := hid hbr
      have HIv := hid (hiv.kp (Kp.of_below hbr))
      have HTk : Hid ((ys.take (k + 1)).map (fun n => (n, (f n).getD [])) = (ys.take k).map (fun n => (n, (f n).getD [])) ++ [(y, u)]) := by
        show _ = _
        rw [take_get hyk, List.map_append]
        simp [hfu]
      have HTl : Hid (((ys.take k).map fun n => (n, (f n).getD [])).length = k) := by show _ = _; rw [List.length_map, List.length_take]; omega
      clear hob hov hmr hbr hiv hrl hyk hlk hfu
      go_wp2_with (first
        | (at_lookup; refine wpList_lookup_run rfl _ _ _ _ rfl _ _ _ rfl rfl HRl.out ?_))
      clear HRl
      refine (cloneI_any v u wr HIv.out hu0 (by omega)).mono ?_
      rintro e w2 ⟨v2, rfl, ho2, hb2⟩
      obtain ⟨a2, c2, hv2, _⟩ := ho2.shape
      subst hv2
      obtain ⟨v6, w6, hr6, ho6, hg6, hj6⟩ := OBW.snoc 34 (x := y) (t := u) (HOb.out.later hb2) (by have := hb2.size; have := HBr.out.size; omega) ⟨ho2.mono (HBr.out.size), hy1, hy2, hu8⟩ (by rw [HTl.out]; omega)
      have hba := below_step hb2 (below_alloc (.cells #[.int .i64 y, .slice a2 u.length c2] 39))
      have hBa := below_step HBr.out hba
      have HO6 := hid ho6
      have HR6 := hid hr6
      have HB6 : Hid (Below wB.heap.size wB w6) := hBa.grown hg6 hBa.size (fun j hj => (hj6 j hj).1)
      have HV6 : Hid (OwI w6 wB.heap.size (.slice (some ⟨g, off, none⟩) ys.length cap) ys) := (HOv.out.later hba).kept hg6 (by
        obtain ⟨us9, _, _, h9⟩ := HOb.out
        exact ownsRow_apart HOv.out.2 h9 (by decide))
      have HM6 : Hid (MapV w6 b L) := (HMr.out.later hba).kept hg6 (fun h => by have := (hj6 _ h).1; omega)
      clear hr6 ho6 hg6 hj6 hba hBa ho2 hb2 hcy HOb HOv HMr HIv
      go_wp2_with (first
        | (at_builtin; refine wpList_append_run rfl _ _ _ rfl _ _ rfl rfl HR6.out ?_))
      go_roundw
      case measure => simp only [intOf]; omega
      case rel => exact ⟨k + 1, hlt, by go_num, by rw [HTk.out]; exact HO6.out, HV6.out, HM6.out, HB6.out⟩
    · have HF : Hid (ys.take k = ys) := List.take_of_length_le (by omega)
      have HOb := hid hob
      have HBr := hid hbr
      clear hob hov hmr hbr
      go_wp2
      go_ret
      exact ⟨_, rfl, by have h9 := HOb.out; rw [HF.out] at h9; exact h9, HBr.out⟩

end Go.Proofs.YtjcgngfidnechabDoor

/- argumentPairs walked. -/
namespace Go.Proofs.YtjcgngfidnechabDoor
open Go.RowKit Go.Maps Go.BigFrame

/-- The tree is that of the term at a place of a row. -/
def Wf (sig : List Sy) (r : List Int) (T : Tr) (q : Nat) : Prop := ∃ u rest, r.drop q = u ++ rest ∧ rowE sig u = 0 ∧ growR sig u = [T]

theorem Wf.size {sig : List Sy} {r : List Int} {T : Tr} {q : Nat} (h : Wf sig r T q) : q + T.size ≤ r.length := by
  obtain ⟨u, rest, h1, h2, h3⟩ := h
  have h4 := growR_sizes sig u
  rw [h3] at h4
  have h5 := congrArg List.length h1
  have h6 := T.pos
  simp only [List.length_drop, List.length_append, sizes] at h4 h5
  omega

theorem Wf.row {sig : List Sy} {r : List Int} {T : Tr} {q : Nat} (h : Wf sig r T q) : rowE sig ((r.drop q).take T.size) = 0 ∧ growR sig ((r.drop q).take T.size) = [T] := by
  obtain ⟨u, rest, h1, h2, h3⟩ := h
  have h4 := growR_sizes sig u
  rw [h3] at h4
  simp only [sizes] at h4
  have h5 : (r.drop q).take T.size = u := by rw [h1, show T.size = u.length by omega, List.take_left]
  rw [h5]
  exact ⟨h2, h3⟩

theorem drop_head {r : List Int} {q : Nat} {c : Int} {l : List Int} (h : r.drop q = c :: l) : r[q]? = some c ∧ r.drop (q + 1) = l := by
  constructor
  · have := congrArg (·[0]?) h
    simpa [List.getElem?_drop] using this
  · rw [← List.drop_drop, h]
    rfl

theorem Wf.var {sig : List Sy} {r : List Int} {q : Nat} (h : Wf sig r .var q) : ∃ c, r[q]? = some c ∧ c < 0 := by
  obtain ⟨u, rest, h1, h2, h3⟩ := h
  cases u with
  | nil => simp [rowE, firstT] at h2
  | cons c u =>
    rw [List.cons_append] at h1
    refine ⟨c, (drop_head h1).1, ?_⟩
    by_cases hc : c < 0
    · exact hc
    · have h4 : growStep sig (growR sig u) c = [.var] := h3
      unfold growStep at h4
      rw [if_neg hc] at h4
      have h5 := congrArg List.getLast? h4
      simp at h5

theorem Wf.app {sig : List Sy} (ha : ArOk sig) {r : List Int} {ts : List Tr} {q : Nat} (h : Wf sig r (.app ts) q) : ∃ c, r[q]? = some c ∧ ¬ c < 0 ∧ ts.length = arN sig c ∧ ∀ (k : Nat) (t : Tr), ts[k]? = some t → Wf sig r t (q + 1 + sizes (ts.take k)) := by
  obtain ⟨u, rest, h1, h2, h3⟩ := h
  cases u with
  | nil => simp [rowE, firstT] at h2
  | cons c u =>
    rw [List.cons_append] at h1
    obtain ⟨h4, h5⟩ := drop_head h1
    have hc : ¬ c < 0 := fun hc => by
      have h6 : growStep sig (growR sig u) c = [.app ts] := h3
      unfold growStep at h6
      rw [if_pos hc] at h6
      have h7 := congrArg List.getLast? h6
      simp at h7
    obtain ⟨us, u1, u2, u3, u4⟩ := kids_tree ha h2 hc
    rw [h3] at u4
    simp only [List.cons.injEq, Tr.app.injEq, and_true] at u4
    have key : ∀ (vs : List (List Int)) (o : Nat) (q2 : List Int), (∀ u ∈ vs, rowE sig u = 0) → r.drop o = vs.flatten ++ q2 → (vs.flatMap (growR sig)).length = vs.length ∧ ∀ (k : Nat) (t : Tr), (vs.flatMap (growR sig))[k]? = some t → Wf sig r t (o + sizes ((vs.flatMap (growR sig)).take k)) := by
      intro vs
      induction vs with
      | nil => intro o q2 _ _; exact ⟨rfl, fun k t hk => by simp at hk⟩
      | cons v vs ih =>
        intro o q2 hv hd
        obtain ⟨T, e1, e2⟩ := grow_one ha (hv v (by simp))
        rw [List.flatten_cons, List.append_assoc] at hd
        have hd2 : r.drop (o + v.length) = vs.flatten ++ q2 := by rw [← List.drop_drop, hd, List.drop_left]
        obtain ⟨i1, i2⟩ := ih (o + v.length) q2 (fun u hu => hv u (by simp [hu])) hd2
        rw [List.flatMap_cons, e1]
        refine ⟨by simp [i1], fun k t hk => ?_⟩
        cases k with
        | zero =>
          simp only [List.singleton_append, List.getElem?_cons_zero, Option.some.injEq] at hk
          subst hk
          simp only [List.take_zero, sizes, Nat.add_zero]
          exact ⟨v, _, hd, hv v (by simp), e1⟩
        | succ k =>
          rw [List.singleton_append, List.getElem?_cons_succ] at hk
          have := i2 k t hk
          rw [List.singleton_append, List.take_succ_cons]
          simp only [sizes]
          rw [e2, ← Nat.add_assoc]
          exact this
    obtain ⟨k1, k2⟩ := key us (q + 1) rest u3 (by rw [h5, u2])
    rw [← u4] at k1 k2
    exact ⟨c, h4, hc, by rw [k1, u1], k2⟩

theorem under_appM : Tryd.prog.underlying 97 = some (.pointer 128) := by kernel_rfl

theorem zero_appM : (Tryd.prog.info? 97).map (·.zero) = some (some (.pointer none)) := by kernel_rfl

theorem as_appM (v : Value) (xT : TypeId) (ok : Bool) (w : World) : (Instr.typeAssert (.iface 97 v) xT 97 ok).run Tryd.prog w = .ok (if ok then .tuple #[v, .bool true] else v) w := by
  simp [Instr.typeAssert, run_underlying under_appM, go_sem, Result.andThen]

theorem as_notM (v : Value) (xT : TypeId) (w : World) : (Instr.typeAssert (.iface 90 v) xT 97 true).run Tryd.prog w = .ok (.tuple #[.pointer none, .bool false]) w := by
  obtain ⟨i, hi, hz⟩ : ∃ i, Tryd.prog.info? 97 = some i ∧ i.zero = some (.pointer none) := by
    have h := zero_appM
    cases hi : Tryd.prog.info? 97 with
    | none => rw [hi] at h; cases h
    | some i => rw [hi] at h; exact ⟨i, rfl, by simpa using h⟩
  simp [Instr.typeAssert, run_underlying under_appM, go_sem, Result.andThen, zeroValue, typeInfo, hi, hz]

theorem args_cell {w : World} {A : Nat → Prop} {S : Nat → Nat → Value} {ts : List Tr} {p : Nat} {a : Option Addr} (h : ts = [] ∨ ∃ g off, a = some ⟨g, off, none⟩ ∧ A g ∧ TPs w A S g off ts p) {k : Nat} {t : Tr} (hk : ts[k]? = some t) : ∃ g off v, a = some ⟨g, off, none⟩ ∧ A g ∧ w.cell? ⟨g, off + k, none⟩ = some v ∧ TP w A S v t (p + sizes (ts.take k)) := by
  rcases h with rfl | ⟨g, off, h1, h2, h3⟩
  · simp at hk
  · obtain ⟨v, h4, h5⟩ := h3.get hk
    exact ⟨g, off, v, h1, h2, h4, h5⟩

theorem TPl.snoc {w : World} {A : Nat → Prop} {S : Nat → Nat → Value} : ∀ {vs : List Value} {ts : List Tr} {p : Nat} {v : Value} {t : Tr}, TPl w A S vs ts p → TP w A S v t (p + sizes ts) → TPl w A S (vs ++ [v]) (ts ++ [t]) p
  | [], [], p, v, t, _, h => by
    simp only [sizes, Nat.add_zero] at h
    exact ⟨h, trivial⟩
  | _ :: _, x :: ts, p, v, t, ⟨h1, h2⟩, h => by
    refine ⟨h1, TPl.snoc h2 ?_⟩
    simp only [sizes] at h
    rw [Nat.add_assoc]
    exact h
  | [], _ :: _, _, _, _, h, _ => h.elim
  | _ :: _, [], _, _, _, h, _ => h.elim

set_option maxRecDepth 100000 in
set_option maxHeartbeats 1600000 in
theorem argumentPairs_any (A : Nat → Prop) (b1 o1 c1 b2 o2 c2 q1 q2 : Nat) (x1 x2 : Int) (B1 : Nat) (ts1 : List Tr) (T2 : Tr) (v2 : Value) (w : World)
    (h1 : TP w A (cdS b1 o1 c1) (.iface 97 (.pointer (some ⟨B1, 0, none⟩))) (.app ts1) q1) (h2 : TP w A (cdS b2 o2 c2) v2 T2 q2) (hA : ∀ b, A b → b < w.heap.size)
    (hx1 : w.cell? ⟨b1, o1 + q1, none⟩ = some (.int .i64 x1)) (hx2 : w.cell? ⟨b2, o2 + q2, none⟩ = some (.int .i64 x2)) (hlen : ∀ ts2, T2 = .app ts2 → x1 = x2 → ts2.length = ts1.length) (hl : ts1.length * 32 ≤ 140737488351232) :
    Calls Tryd.prog 64 #[.pointer (some ⟨B1, 0, none⟩), v2] w fun e w' => ∃ v' xs ok, e = .returned (.tuple #[v', .bool ok]) ∧ OwP w' w.heap.size v' xs ∧ Below w.heap.size w w' ∧
      ((ok = false ∧ (T2 = .var ∨ x1 ≠ x2)) ∨ (ok = true ∧ ∃ ts2, T2 = .app ts2 ∧ x1 = x2 ∧ TPl w' A (cdS b1 o1 c1) (xs.map (·.1)) ts1 (q1 + 1) ∧ TPl w' A (cdS b2 o2 c2) (xs.map (·.2)) ts2 (q2 + 1))) := by
  unfold TP at h1
  obtain ⟨B, a1, cp1, e1, hB1, hc10, hc11, hl1, hm1, hargs1⟩ := h1
  simp only [Value.iface.injEq, Value.pointer.injEq, Option.some.injEq, Addr.mk.injEq, and_true, true_and] at e1
  subst e1
  unfold maxLen at hm1
  cases T2 with
  | var =>
    unfold TP at h2
    subst h2
    have has := as_notM
    clear hargs1
    go_enter Tryd.func64, Tryd.ntmps64
    go_wp2
    go_ret2
    exact ⟨_, [], false, rfl, World.ownsRow_nil _ _ _ _, Below.refl _ _, .inl ⟨rfl, .inl trivial⟩⟩
  | app ts2 =>
    unfold TP at h2
    obtain ⟨B2, a2, cp2, rfl, hB2, hc20, hc21, hl2, hm2, hargs2⟩ := h2
    unfold maxLen at hm2
    have has := as_appM (.pointer (some ⟨B2, 0, none⟩)) 67 true
    simp only [if_true] at has
    have HA := hid hA
    have HR1 := hid hargs1
    have HR2 := hid hargs2
    have HC10 := hid hc10
    have HC20 := hid hc20
    have HX1 := hid hx1
    have HX2 := hid hx2
    clear hA hargs1 hargs2 hx1 hx2 hc10 hc20
    go_enter Tryd.func64, Tryd.ntmps64
    go_wp2_with fail
    clear has
    refine (symbol_any B2 b2 o2 c2 q2 (sizes ts2) x2 w HC20.out HX2.out).mono ?_
    rintro e w9 ⟨rfl, hw9⟩
    have hw8 := hw9.symm
    subst hw8
    clear hw9
    go_wp2_with fail
    refine (symbol_any B1 b1 o1 c1 q1 (sizes ts1) x1 w HC10.out HX1.out).mono ?_
    rintro e w9 ⟨rfl, hw9⟩
    have hw8 := hw9.symm
    subst hw8
    clear hw9
    by_cases hxx : x1 = x2
    · have hne : (x2 != x1) = false := by simp [hxx]
      have HX := hid hxx
      have hln := hlen ts2 rfl hxx
      have HLn := hid hln
      clear hxx hlen hln
      go_wp2
      clear hne
      go_loopw [8, 30] (fun x iv wr => ∃ (k : Nat) (xs : List (Value × Value)), k ≤ ts1.length ∧ iv = .int .i64 k ∧ xs.length = k ∧ OwP wr w.heap.size x xs ∧ Below w.heap.size w wr ∧ TPl w A (cdS b1 o1 c1) (xs.map (·.1)) (ts1.take k) (q1 + 1) ∧ TPl w A (cdS b2 o2 c2) (xs.map (·.2)) (ts2.take k) (q2 + 1)) (fun _ iv _ => ts1.length - (intOf iv).toNat)
      case atStart => exact ⟨0, [], Nat.zero_le _, rfl, rfl, World.ownsRow_nil _ _ _ _, Below.refl _ _, trivial, trivial⟩
      case round =>
        obtain ⟨k, xs, hk, rfl, hxl, how, hbl, ht1, ht2⟩ := hrel
        have HO := hid how
        have HB := hid hbl
        have HT1 := hid ht1
        have HT2 := hid ht2
        have HXl := hid hxl
        clear how ht1 ht2 hxl
        by_cases hlt : k < ts1.length
        · obtain ⟨t1, htk1⟩ : ∃ t, ts1[k]? = some t := ⟨_, List.getElem?_eq_getElem hlt⟩
          obtain ⟨t2, htk2⟩ : ∃ t, ts2[k]? = some t := ⟨_, List.getElem?_eq_getElem (by have := HLn.out; omega)⟩
          obtain ⟨g1, f1, u1, rfl, hg1, hu1, hp1⟩ := args_cell HR1.out htk1
          obtain ⟨g2, f2, u2, rfl, hg2, hu2, hp2⟩ := args_cell HR2.out htk2
          have hu1r := (hbl.cell (p := ⟨g1, f1 + k, none⟩) (HA.out g1 hg1)).trans hu1
          have hu2r := (hbl.cell (p := ⟨g2, f2 + k, none⟩) (HA.out g2 hg2)).trans hu2
          have hc21r := (hbl.cell (p := ⟨B2, 1, none⟩) (HA.out B2 hB2)).trans hc21
          have HP1 : Hid (TPl w A (cdS b1 o1 c1) ((xs ++ [(u1, u2)]).map (·.1)) (ts1.take (k + 1)) (q1 + 1)) := by
            rw [List.map_append, take_get htk1]
            exact TPl.snoc HT1.out hp1
          have HP2 : Hid (TPl w A (cdS b2 o2 c2) ((xs ++ [(u1, u2)]).map (·.2)) (ts2.take (k + 1)) (q2 + 1)) := by
            rw [List.map_append, take_get htk2]
            exact TPl.snoc HT2.out hp2
          obtain ⟨v6, w6, hr6, ho6, hg6, _⟩ := join_pairs 88 (w := wr.alloc (.cells #[u1, u2] 87)) (base := w.heap.size) (x := u8) (xs := xs) (ys := [(u1, u2)]) (ao := some ⟨wr.heap.size, 0, none⟩) (cap := 1)
            (ownsRow_later HO.out (below_alloc _)) (.inr ⟨wr.heap.size, 0, rfl, fun j u hj => by
              rw [Nat.zero_add]
              exact cell_new (by simpa [prC] using hj)⟩) (fun u hu => by
              simp [prC] at hu
              rcases hu with rfl | rfl
              · exact hp1.ifv.one
              · exact hp2.ifv.one) (Nat.le_trans hbl.size (below_alloc _).size) (by rw [HXl.out]; simp; omega)
          have hb6 := (below_step hbl (below_alloc (.cells #[u1, u2] 87))).grown hg6 (Nat.le_trans hbl.size (below_alloc _).size) (fun j hj => own_blk HO.out hj)
          have HR6 := hid hr6
          have HO6 := hid ho6
          have HB6 := hid hb6
          have HXl2 : Hid ((xs ++ [(u1, u2)]).length = k + 1) := by show _ = _; rw [List.length_append, HXl.out]; rfl
          have hk2 : k < ts2.length := by have := HLn.out; omega
          obtain ⟨y1, z1, hy1⟩ := hp1.ifv
          obtain ⟨y2, z2, hy2⟩ := hp2.ifv
          subst hy1
          subst hy2
          clear hr6 ho6 hg6 hb6 hu1 hu2 hp1 hp2 htk1 htk2 hbl
          go_wp2_with (first
            | (at_builtin; refine wpList_append_run rfl _ _ _ rfl _ _ rfl rfl HR6.out ?_))
          go_roundw
          case rel => exact ⟨k + 1, _, by omega, by go_num, HXl2.out, HO6.out, HB6.out, HP1.out, HP2.out⟩
          case measure => simp [intOf]; omega
        · have hke : k = ts1.length := by omega
          subst hke
          have hT1 := HT1.out
          have hT2 := HT2.out
          rw [List.take_length] at hT1
          rw [← HLn.out, List.take_length] at hT2
          have HF1 := hid (hT1.keep (A' := A) (fun b o x hb hx => (Kp.of_below hbl).cell _ _ hx) (fun b hb => hb))
          have HF2 := hid (hT2.keep (A' := A) (fun b o x hb hx => (Kp.of_below hbl).cell _ _ hx) (fun b hb => hb))
          clear hT1 hT2
          go_wp2
          go_ret2
          exact ⟨_, xs, true, rfl, HO.out, HB.out, .inr ⟨rfl, ts2, rfl, HX.out, HF1.out, HF2.out⟩⟩
    · have hne : (x2 != x1) = true := by rw [bne_iff_ne]; exact fun e => hxx e.symm
      have HX := hid hxx
      clear hxx hlen
      go_wp2
      go_ret2
      exact ⟨_, [], false, rfl, World.ownsRow_nil _ _ _ _, Below.refl _ _, .inl ⟨rfl, .inr HX.out⟩⟩

end Go.Proofs.YtjcgngfidnechabDoor
