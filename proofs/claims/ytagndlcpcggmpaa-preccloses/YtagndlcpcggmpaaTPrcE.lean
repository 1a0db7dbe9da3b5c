/- package prec: Close. -/
import Derived.Test.YtagndlcpcggmpaaTPrcD
namespace Go.Proofs.Ytagndlcpcggmpaa
open Go.RowKit Go.Maps

/-- A pair of numbers at an address. -/
def E2 (w : World) (g o : Nat) (x : Int × Int) : Prop :=
  (-9223372036854775808 ≤ x.1 ∧ x.1 ≤ 9223372036854775807) ∧ (-9223372036854775808 ≤ x.2 ∧ x.2 ≤ 9223372036854775807) ∧ w.cell? ⟨g, o, none⟩ = some (.int .i64 x.1) ∧ w.cell? ⟨g, o + 1, none⟩ = some (.int .i64 x.2)

theorem E2.kp {w w' : World} (hk : Kp w w') (g o : Nat) (x : Int × Int) (h : E2 w g o x) : E2 w' g o x := ⟨h.1, h.2.1, hk.cell _ _ h.2.2.1, hk.cell _ _ h.2.2.2⟩

/-- A row of pairs. -/
def Prs (w : World) (v : Value) (ps : List (Int × Int)) : Prop := Row E2 2 w v ps

theorem Prs.kp {w w' : World} {v : Value} {ps : List (Int × Int)} (h : Prs w v ps) (hk : Kp w w') : Prs w' v ps := Row.imp h hk.size (E2.kp hk)

theorem Prs.later {w w' : World} {v : Value} {ps : List (Int × Int)} (h : Prs w v ps) (hb : Below w.heap.size w w') : Prs w' v ps := h.kp (Kp.of_below hb)

theorem Prs.at {w : World} {ao : Option Addr} {n cap : Nat} {ps : List (Int × Int)} (h : Prs w (.slice ao n cap) ps) {k : Nat} (hk : k < ps.length) :
    ∃ g off a b, ao = some ⟨g, off, none⟩ ∧ ps[k]? = some (a, b) ∧ w.cell? ⟨g, off + k * 2, none⟩ = some (.int .i64 a) ∧ w.cell? ⟨g, off + k * 2 + 1, none⟩ = some (.int .i64 b) ∧ (-9223372036854775808 ≤ a ∧ a ≤ 9223372036854775807) ∧ -9223372036854775808 ≤ b ∧ b ≤ 9223372036854775807 := by
  obtain ⟨ao', cap', hv, _, _, hx⟩ := Row.flat h
  simp only [Value.slice.injEq] at hv
  obtain ⟨rfl, rfl, rfl⟩ := hv
  obtain ⟨g, off, x, rfl, hm, h1, h2, h3, h4⟩ := hx k hk
  exact ⟨g, off, x.1, x.2, rfl, hm, h3, h4, h1, h2⟩

theorem inN_take_step {n : Int} {ps : List (Int × Int)} {k : Nat} {a b : Int} (h : InN n (ps.take k)) (hk : ps[k]? = some (a, b)) (h1 : 0 ≤ a ∧ a < n) (h2 : 0 ≤ b ∧ b < n) : InN n (ps.take (k + 1)) := by
  rw [take_get hk]
  intro x hx
  rcases List.mem_append.1 hx with hx | hx
  · exact h x hx
  · simp only [List.mem_singleton] at hx
    subst hx
    exact ⟨h1.1, h1.2, h2.1, h2.2⟩

theorem not_inN {n : Int} {ps : List (Int × Int)} {k : Nat} {a b : Int} (hk : ps[k]? = some (a, b)) (h : ¬ ((0 ≤ a ∧ a < n) ∧ (0 ≤ b ∧ b < n))) : ¬ InN n ps := fun hh => by
  have := hh _ (List.mem_of_getElem? hk)
  simp only at this
  exact h ⟨⟨this.1, this.2.1⟩, this.2.2⟩

theorem setN_row {U : List Nat} {f g a b : Nat} (h1 : U[f * 2]? = some a) (h2 : U[f * 2 + 1]? = some b) :
    (g < 64 → U.set (f * 2) (a ||| 2 ^ (g % 64)) = setN U f g) ∧ (¬ g < 64 → g < 128 → U.set (f * 2 + 1) (b ||| 2 ^ (g % 64)) = setN U f g) := by
  constructor
  · intro hg
    unfold setN
    rw [show 2 * f + g / 64 = f * 2 by omega, h1]
    rfl
  · intro hg hg2
    unfold setN
    rw [show 2 * f + g / 64 = f * 2 + 1 by omega, h2]
    rfl

/-- What Close answers. -/
def CloseO (n : Int) (ps : List (Int × Int)) (w : World) (e : Ending) (w' : World) : Prop :=
  Below w.heap.size w w' ∧ ((closeE n ps ≠ 0 ∧ e = .returned (.tuple #[.pointer none, .int .i64 (closeE n ps)])) ∨ (closeE n ps = 0 ∧ ∃ g, e = .returned (.tuple #[.pointer (some ⟨g, 0, none⟩), .int .i64 0]) ∧ Pc w' (.pointer (some ⟨g, 0, none⟩)) ps))

theorem closeO_err {n c : Int} {ps : List (Int × Int)} {w w' : World} (hE : closeE n ps = c) (hc : c ≠ 0) (hb : Below w.heap.size w w') : CloseO n ps w (.returned (.tuple #[.pointer none, .int .i64 c])) w' :=
  ⟨hb, .inl ⟨by rw [hE]; exact hc, by rw [hE]⟩⟩

theorem tab_row {T : List Nat} (hT : Tab T) {f : Nat} (hf : f < 128) : ∃ x y, T[f * 2]? = some x ∧ T[f * 2 + 1]? = some y ∧ x < 18446744073709551616 ∧ y < 18446744073709551616 := by
  obtain ⟨x, h1, h2⟩ := hT.get (k := f * 2) (by omega)
  obtain ⟨y, h3, h4⟩ := hT.get (k := f * 2 + 1) (by omega)
  exact ⟨x, y, h1, h3, h2, h4⟩

/-- A row stored. -/
theorem Tb.row {t : TypeId} {w : World} {g : Nat} {T : List Nat} (h : Tb t w g T) (k x y : Nat) : Tb t ((w.setCell ⟨g, k, none⟩ (.int .u64 (x : Int))).setCell ⟨g, k + 1, none⟩ (.int .u64 (y : Int))) g ((T.set k x).set (k + 1) y) := (h.set k x).set (k + 1) y

theorem with_form {T : List Nat} (hT : Tab T) {f g x y : Nat} (hf : f < 128) (hg : g < 128) (h1 : T[f * 2]? = some x) (h2 : T[f * 2 + 1]? = some y) : ∃ x2 y2, rowWith x y g = .agg #[.int .u64 ((x2 : Nat) : Int), .int .u64 ((y2 : Nat) : Int)] ∧ (T.set (f * 2) x2).set (f * 2 + 1) y2 = setN T f g := by
  have hl := hT.len
  have hs := setN_row (g := g) h1 h2
  by_cases h : g < 64
  · refine ⟨x ||| 2 ^ (g % 64), y, by unfold rowWith; rw [if_pos h]; rfl, ?_⟩
    rw [← hs.1 h]
    apply List.ext_getElem?
    intro k
    rw [List.getElem?_set]
    split
    · next e =>
      subst e
      rw [if_pos (by rw [List.length_set]; omega), List.getElem?_set_ne (by omega), h2]
    · rfl
  · refine ⟨x, y ||| 2 ^ (g % 64), by unfold rowWith; rw [if_neg h]; rfl, ?_⟩
    rw [← hs.2 h hg]
    congr 1
    apply List.ext_getElem?
    intro k
    rw [List.getElem?_set]
    split
    · next e =>
      subst e
      rw [if_pos (by omega), h1]
    · rfl

theorem fold_set : ∀ (l : List Value) (k : Nat) (c : Array Value), c.size = k + l.length →
    ((l.zipIdx k).foldl (fun (cs : Array Value) (x : Value × Nat) => cs.setIfInBounds x.snd x.fst) c).toList = c.toList.take k ++ l
  | [], k, c, h => by
    simp only [List.length_nil, Nat.add_zero] at h
    subst h
    simp [← Array.length_toList]
  | x :: l, k, c, h => by
    rw [List.zipIdx_cons, List.foldl_cons, fold_set l (k + 1) _ (by simp at h ⊢; omega)]
    simp only [Array.toList_setIfInBounds]
    have hk : k < c.toList.length := by simp at h ⊢; omega
    rw [List.take_add_one, List.take_set_of_le (Nat.le_refl _), List.getElem?_set_self hk]
    simp

theorem build_table (c : Array Value) (U : List Nat) (n : Nat) (hn : n = U.length) (hc : c.size = U.length) : Array.foldl (fun (cs : Array Value) (x : Value × Nat) => cs.setIfInBounds x.snd x.fst) c (cellsT U).zipIdx 0 n = cellsT U := by
  subst hn
  have h1 : (cellsT U).zipIdx = (((U.map U64).zipIdx 0)).toArray := by
    unfold cellsT
    simp
  rw [h1]
  have h2 : (((U.map U64).zipIdx 0)).length = U.length := by simp
  have h3 : Array.foldl (fun (cs : Array Value) (x : Value × Nat) => cs.setIfInBounds x.snd x.fst) c (((U.map U64).zipIdx 0)).toArray 0 U.length = ((U.map U64).zipIdx 0).foldl (fun (cs : Array Value) (x : Value × Nat) => cs.setIfInBounds x.snd x.fst) c := by
    rw [← h2]
    exact List.foldl_toArray' _ _ _ (by simp)
  rw [h3]
  apply Array.ext'
  rw [fold_set _ 0 c (by simpa using hc)]
  simp [cellsT]

set_option maxRecDepth 100000 in
theorem zero_prec : (Try.prog.info? 47).map (fun i => (i.zero, i.size)) = some (some (.agg (cellsT zeroT)), 256) := by kernel_rfl

theorem run_zero_prec (w : World) : (zeroValue 47).run Try.prog w = .ok (.agg (cellsT zeroT)) w := (zero_of_info zero_prec).1 w

set_option maxRecDepth 100000 in
set_option maxHeartbeats 3200000 in
theorem close_any (n : Int) (v : Value) (ps : List (Int × Int)) (w : World) (h : Prs w v ps) :
    Calls Try.prog 9 #[.int .i64 n, v] w (CloseO n ps w) := by
  obtain ⟨ao, cap, rfl, hcap, hcm, _⟩ := Row.flat h
  unfold maxLen at hcm
  have HP : Hid (Prs w (.slice ao ps.length cap) ps) := h
  clear h
  have hz := run_zero_table
  by_cases hn0 : n < 0
  · go_enter Try.func9, Try.ntmps9
    go_wp2
    go_ret2
    exact closeO_err (closeE_arg (.inl hn0)) (by decide) (Below.refl _ _)
  by_cases hn1 : 128 < n
  · go_enter Try.func9, Try.ntmps9
    go_wp2
    go_ret2
    exact closeO_err (closeE_arg (.inr hn1)) (by decide) (Below.refl _ _)
  have hn2 : 0 ≤ n := by omega
  have hn3 : n ≤ 128 := by omega
  have hd0 : decide (n < 0) = false := by simpa using hn0
  have hd1 : decide (128 < n) = false := by simpa using hn1
  clear hn0 hn1
  go_enter Try.func9, Try.ntmps9
  go_wp2
  go_loopw [20] (fun i wr => ∃ (k : Nat) (T : List Nat), k ≤ ps.length ∧ i = .int .i64 k ∧ ToldT (ps.take k) T ∧ InN n (ps.take k) ∧ Tb 43 wr w.heap.size T ∧ Below w.heap.size w wr) (fun i _ => ps.length - (intOf i).toNat)
  case atStart => exact ⟨0, zeroT, by omega, rfl, told_zero, (fun x hx => by simp at hx), heap_alloc_new _ _, below_alloc _⟩
  case round =>
    obtain ⟨k, T, hk, rfl, hT, hI, hb, hbl⟩ := hrel
    have HT : Hid (ToldT (ps.take k) T) := hT
    have HI : Hid (InN n (ps.take k)) := hI
    have HB : Hid (Tb 43 wr w.heap.size T) := hb
    have HL : Hid (Below w.heap.size w wr) := hbl
    clear hT hI hb hbl
    by_cases hlt : k < ps.length
    · obtain ⟨g, off, a, b, rfl, hab, c1, c2, ha, hb⟩ := (HP.out.later HL.out).at hlt
      have HAB : Hid (ps[k]? = some (a, b)) := hab
      clear hab
      go_wp2
      go_region
      obtain ⟨w2, hw2⟩ : ∃ X, X = (wr.alloc (.cells #[.int .i64 a, .int .i64 b] 31)).drew := ⟨_, rfl⟩
      have hstep : Below wr.heap.size wr w2 := by rw [hw2]; exact (below_alloc _).drew
      have HB2 : Hid (Tb 43 w2 w.heap.size T) := HB.out.later hstep
      have HL2 : Hid (Below w.heap.size w w2) := HL.out.trans (hstep.mono HL.out.size)
      rw [← hw2]
      clear hw2 hstep HB HL c1 c2
      go_wp2_with fail
      refine (isSymbol_any n a w2).mono ?_
      rintro e w3 ⟨rfl, hw3⟩
      subst hw3
      by_cases h1 : 0 ≤ a ∧ a < n
      · have e1 : decide (0 ≤ a ∧ a < n) = true := by simp [h1]
        rw [e1]
        have H1 := hidP h1
        clear e1 h1
        go_wp2_with fail
        refine (isSymbol_any n b w3).mono ?_
        rintro e w4 ⟨rfl, hw4⟩
        subst hw4
        by_cases h2 : 0 ≤ b ∧ b < n
        · have e2 : decide (0 ≤ b ∧ b < n) = true := by simp [h2]
          rw [e2]
          clear e2
          have h1 := H1.out
          obtain ⟨f, rfl⟩ := Int.eq_ofNat_of_zero_le h1.1
          obtain ⟨g', rfl⟩ := Int.eq_ofNat_of_zero_le h2.1
          have hf : f < 128 := by omega
          have hg : g' < 128 := by omega
          have hfi : (f : Int) < 128 := by omega
          obtain ⟨x, y, hx1, hy1, hx2, hy2⟩ := tab_row HT.out.1 hf
          obtain ⟨x2, y2, hw5, hset⟩ := with_form HT.out.1 hf hg hx1 hy1
          have c1 := HB2.out.cell hx1
          have c2 := HB2.out.cell hy1
          have HX := hidP hx1
          have HY := hidP hy1
          have HW := hidP hw5
          have HS := hidP hset
          have HI2 : Hid (InN n (ps.take (k + 1))) := inN_take_step HI.out HAB.out h1 h2
          have HT2 : Hid (ToldT (ps.take (k + 1)) (setN T f g')) := by rw [take_get HAB.out]; exact told_step HT.out hf hg
          clear hx1 hy1 hw5 hset h1 h2 H1 HI
          go_wp2_with fail
          refine (with_any x y g' w4 hx2 hy2 hg).mono ?_
          rintro e w5 ⟨rfl, hb5⟩
          rw [HW.out]
          have HB3 : Hid (Tb 43 w5 w.heap.size T) := HB2.out.later hb5
          have HL3 : Hid (Below w.heap.size w w5) := HL2.out.trans (hb5.mono HL2.out.size)
          clear hb5 c1 c2 HB2 HL2 HT
          have c1 := HB3.out.cell HX.out
          have c2 := HB3.out.cell HY.out
          have c3 := HB3.out.frozen (f * 2)
          have c4 := HB3.out.frozen (f * 2 + 1)
          have HB4 := hidP (HB3.out.row (f * 2) x2 y2)
          rw [HS.out] at HB4
          have HL4 := hidP ((HL3.out.setCell (p := ⟨w.heap.size, f * 2, none⟩) (Nat.le_refl _) (.int .u64 (x2 : Int))).setCell (p := ⟨w.heap.size, f * 2 + 1, none⟩) (Nat.le_refl _) (.int .u64 (y2 : Int)))
          go_wp2
          go_roundw
          case rel => exact ⟨k + 1, setN T f g', by omega, by go_num, HT2.out, HI2.out, HB4.out, HL4.out⟩
          case measure => simp [intOf]; omega
        · have e2 : decide (0 ≤ b ∧ b < n) = false := by simp only [decide_eq_false_iff_not]; exact h2
          rw [e2]
          have H2 := hidP h2
          clear e2 h2
          go_wp2
          go_ret2
          exact closeO_err (closeE_sym hn2 hn3 (not_inN HAB.out (fun h => H2.out h.2))) (by decide) HL2.out
      · have e1 : decide (0 ≤ a ∧ a < n) = false := by simp only [decide_eq_false_iff_not]; exact h1
        rw [e1]
        have H1 := hidP h1
        clear e1 h1
        go_wp2
        go_ret2
        exact closeO_err (closeE_sym hn2 hn3 (not_inN HAB.out (fun h => H1.out h.1))) (by decide) HL2.out
    · obtain rfl : k = ps.length := by omega
      have hI2 := HI.out
      have hT2 := HT.out
      rw [List.take_length] at hI2 hT2
      have HI3 := hidP hI2
      have HT3 := hidP hT2
      clear hI2 hT2 HI HT
      go_wp2_with (first
        | fail
        | (refine wpList_load_row rfl _ _ rfl w.heap.size rfl _ _ _ _ HB.out under_table rfl (by rw [info_table, cellsT_size, HT3.out.1.len]) ?_))
      refine (closed_any (PR ps) T wr HT3.out.1 (HT3.out.mid HI3.out hn3)).mono ?_
      rintro e w2 ⟨U, rfl, hU, hcl, hb2⟩
      have HU := hidP hU
      have HC : Hid (∀ i j, TR U i j ↔ Up ps i j) := up_of_closed hcl
      have HL2 : Hid (Below w.heap.size w w2) := HL.out.trans (hb2.mono HL.out.size)
      clear hU hcl hb2 HL HB HT3
      go_wp2_with (first
        | fail
        | (refine wpList_store_row rfl _ _ _ rfl w2.heap.size (cellsT U) rfl rfl _ _ (heap_alloc_new _ _) (by rw [info_table, cellsT_size, HU.out.len]) (by rw [cellsT_size, cellsT_size, HU.out.len]; rfl) (cellsT_one _) ?_))
      rw [World.setRow_alloc_new]
      obtain ⟨w3, hw3⟩ : ∃ X, X = w2.alloc (.cells (cellsT U) 43) := ⟨_, rfl⟩
      have HB3 : Hid (Tb 43 w3 w2.heap.size U) := by rw [hw3]; exact heap_alloc_new _ _
      have HL3 : Hid (Below w.heap.size w w3) := by rw [hw3]; exact HL2.out.trans ((below_alloc _).mono HL2.out.size)
      rw [← hw3]
      clear hw3
      simp only [Act.put]
      refine wp_load_row _ _ rfl w2.heap.size rfl _ _ _ _ HB3.out under_table rfl (by rw [info_table, cellsT_size, HU.out.len]) ?_
      go_wp2_with fail
      refine (hasCycle_any U w3 HU.out).mono ?_
      rintro e w4 ⟨rfl, hb4⟩
      have HB4 : Hid (Tb 43 w4 w2.heap.size U) := HB3.out.later hb4
      have HL4 : Hid (Below w.heap.size w w4) := HL3.out.trans (hb4.mono HL3.out.size)
      clear hb4 HB3 HL3
      cases hc : cycB U 128 with
      | true =>
        have HX : Hid (∃ i, Up ps i i) := by
          obtain ⟨i, hi⟩ := (cycB_iff U).1 hc
          exact ⟨i, (HC.out i i).1 hi⟩
        clear hc
        go_wp2
        go_ret2
        exact closeO_err (closeE_cyc hn2 hn3 HI3.out HX.out) (by decide) HL4.out
      | false =>
        have HX : Hid (∀ i, ¬ Up ps i i) := fun i hi => by
          have := (cycB_iff U).2 ⟨i, (HC.out i i).2 hi⟩
          rw [hc] at this
          cases this
        clear hc
        go_wp2_with (first
          | (refine wpList_load_row rfl _ _ rfl w2.heap.size rfl _ _ _ _ HB4.out under_table rfl (by rw [info_table, cellsT_size, HU.out.len]) ?_))
        have hz2 := run_zero_prec
        have hs1 : (cellsT U).size = 256 := by rw [cellsT_size]; exact HU.out.len
        have hs2 : (cellsT zeroT).size = 256 := by rw [cellsT_size]; rfl
        have hfo := build_table (cellsT zeroT) U 256 HU.out.len.symm (by rw [hs2]; exact HU.out.len.symm)
        simp only [hz2, Result.andThen_ok, hs1, hs2]
        rw [hfo, if_neg (by simp)]
        simp only [Sem.run_pure, Result.andThen_ok]
        rw [Oper.upon_value]
        go_wp2
        go_ret2
        exact ⟨HL4.out.trans ((below_alloc _).mono HL4.out.size), .inr ⟨closeE_ok hn2 hn3 HI3.out HX.out, w4.heap.size, rfl, w4.heap.size, U, rfl, HU.out, heap_alloc_new _ _, HC.out⟩⟩

end Go.Proofs.Ytagndlcpcggmpaa
