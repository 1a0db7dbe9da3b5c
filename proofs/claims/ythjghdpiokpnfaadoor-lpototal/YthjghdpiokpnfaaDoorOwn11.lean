/- Texts of the proof, one behind the other. -/
import Derived.Test.YthjghdpiokpnfaaDoorOwn8
import Derived.Test.YthjghdpiokpnfaaDoorOwn7
import Derived.Laws.MakeOwn
/- package prec: Close. -/
namespace Go.Proofs.YthjghdpiokpnfaaDoor
open Go.RowKit Go.Maps

/-- A pair of numbers at an address. -/
def E2 (w : World) (g o : Nat) (x : Int × Int) : Prop :=
  (-9223372036854775808 ≤ x.1 ∧ x.1 ≤ 9223372036854775807) ∧ (-9223372036854775808 ≤ x.2 ∧ x.2 ≤ 9223372036854775807) ∧ w.cell? ⟨g, o, none⟩ = some (.int .i64 x.1) ∧ w.cell? ⟨g, o + 1, none⟩ = some (.int .i64 x.2)

theorem E2.kp {w w' : World} (hk : Kp w w') (g o : Nat) (x : Int × Int) (h : E2 w g o x) : E2 w' g o x := ⟨h.1, h.2.1, hk.cell _ _ h.2.2.1, hk.cell _ _ h.2.2.2⟩

/-- A row of pairs. -/
def Prs (w : World) (v : Value) (ps : List (Int × Int)) : Prop := Row E2 2 w v ps

theorem Prs.kp {w w' : World} {v : Value} {ps : List (Int × Int)} (h : Prs w v ps) (hk : Kp w w') : Prs w' v ps := Row.imp h hk.size (E2.kp hk)

theorem Prs.later {w w' : World} {v : Value} {ps : List (Int × Int)} (h : Prs w v ps) (hb : Below w.heap.size w w') : Prs w' v ps := h.kp (Kp.of_below hb)

theorem Prs.at {w : World} {ao : Option Addr} {n cap : Nat} {ps : List (Int × Int)} (h : Prs w (.slice ao n cap) ps) {k : Nat} (hk : k < ps.length) :
    ∃ g off a b, ao = some ⟨g, off, none⟩ ∧ ps[k]? = some (a, b) ∧ w.cell? ⟨g, off + k * 2, none⟩ = some (.int .i64 a) ∧ w.cell? ⟨g, off + k * 2 + 1, none⟩ = some (.int .i64 b) ∧ (-9223372036854775808 ≤ a ∧ a ≤ 9223372036854775807) ∧ -9223372036854775808 ≤ b ∧ b ≤ 9223372036854775807 := by
  obtain ⟨ao', cap', hv, _, _, hx⟩ := Row.flat h
  simp only [Value.slice.injEq] at hv
  obtain ⟨rfl, rfl, rfl⟩ := hv
  obtain ⟨g, off, x, rfl, hm, h1, h2, h3, h4⟩ := hx k hk
  exact ⟨g, off, x.1, x.2, rfl, hm, h3, h4, h1, h2⟩

theorem inN_take_step {n : Int} {ps : List (Int × Int)} {k : Nat} {a b : Int} (h : InN n (ps.take k)) (hk : ps[k]? = some (a, b)) (h1 : 0 ≤ a ∧ a < n) (h2 : 0 ≤ b ∧ b < n) : InN n (ps.take (k + 1)) := by
  rw [take_get hk]
  intro x hx
  rcases List.mem_append.1 hx with hx | hx
  · exact h x hx
  · simp only [List.mem_singleton] at hx
    subst hx
    exact ⟨h1.1, h1.2, h2.1, h2.2⟩

theorem not_inN {n : Int} {ps : List (Int × Int)} {k : Nat} {a b : Int} (hk : ps[k]? = some (a, b)) (h : ¬ ((0 ≤ a ∧ a < n) ∧ (0 ≤ b ∧ b < n))) : ¬ InN n ps := fun hh => by
  have := hh _ (List.mem_of_getElem? hk)
  simp only at this
  exact h ⟨⟨this.1, this.2.1⟩, this.2.2⟩

theorem setN_row {U : List Nat} {f g a b : Nat} (h1 : U[f * 2]? = some a) (h2 : U[f * 2 + 1]? = some b) :
    (g < 64 → U.set (f * 2) (a ||| 2 ^ (g % 64)) = setN U f g) ∧ (¬ g < 64 → g < 128 → U.set (f * 2 + 1) (b ||| 2 ^ (g % 64)) = setN U f g) := by
  constructor
  · intro hg
    unfold setN
    rw [show 2 * f + g / 64 = f * 2 by omega, h1]
    rfl
  · intro hg hg2
    unfold setN
    rw [show 2 * f + g / 64 = f * 2 + 1 by omega, h2]
    rfl

/-- What Close answers. -/
def CloseO (n : Int) (ps : List (Int × Int)) (w : World) (e : Ending) (w' : World) : Prop :=
  Below w.heap.size w w' ∧ ((closeE n ps ≠ 0 ∧ e = .returned (.tuple #[.pointer none, .int .i64 (closeE n ps)])) ∨ (closeE n ps = 0 ∧ ∃ g, e = .returned (.tuple #[.pointer (some ⟨g, 0, none⟩), .int .i64 0]) ∧ Pc w' (.pointer (some ⟨g, 0, none⟩)) ps))

theorem closeO_err {n c : Int} {ps : List (Int × Int)} {w w' : World} (hE : closeE n ps = c) (hc : c ≠ 0) (hb : Below w.heap.size w w') : CloseO n ps w (.returned (.tuple #[.pointer none, .int .i64 c])) w' :=
  ⟨hb, .inl ⟨by rw [hE]; exact hc, by rw [hE]⟩⟩

theorem tab_row {T : List Nat} (hT : Tab T) {f : Nat} (hf : f < 128) : ∃ x y, T[f * 2]? = some x ∧ T[f * 2 + 1]? = some y ∧ x < 18446744073709551616 ∧ y < 18446744073709551616 := by
  obtain ⟨x, h1, h2⟩ := hT.get (k := f * 2) (by omega)
  obtain ⟨y, h3, h4⟩ := hT.get (k := f * 2 + 1) (by omega)
  exact ⟨x, y, h1, h3, h2, h4⟩

/-- A row stored. -/
theorem Tb.row {t : TypeId} {w : World} {g : Nat} {T : List Nat} (h : Tb t w g T) (k x y : Nat) : Tb t ((w.setCell ⟨g, k, none⟩ (.int .u64 (x : Int))).setCell ⟨g, k + 1, none⟩ (.int .u64 (y : Int))) g ((T.set k x).set (k + 1) y) := (h.set k x).set (k + 1) y

theorem with_form {T : List Nat} (hT : Tab T) {f g x y : Nat} (hf : f < 128) (hg : g < 128) (h1 : T[f * 2]? = some x) (h2 : T[f * 2 + 1]? = some y) : ∃ x2 y2, rowWith x y g = .agg #[.int .u64 ((x2 : Nat) : Int), .int .u64 ((y2 : Nat) : Int)] ∧ (T.set (f * 2) x2).set (f * 2 + 1) y2 = setN T f g := by
  have hl := hT.len
  have hs := setN_row (g := g) h1 h2
  by_cases h : g < 64
  · refine ⟨x ||| 2 ^ (g % 64), y, by unfold rowWith; rw [if_pos h]; rfl, ?_⟩
    rw [← hs.1 h]
    apply List.ext_getElem?
    intro k
    rw [List.getElem?_set]
    split
    · next e =>
      subst e
      rw [if_pos (by rw [List.length_set]; omega), List.getElem?_set_ne (by omega), h2]
    · rfl
  · refine ⟨x, y ||| 2 ^ (g % 64), by unfold rowWith; rw [if_neg h]; rfl, ?_⟩
    rw [← hs.2 h hg]
    congr 1
    apply List.ext_getElem?
    intro k
    rw [List.getElem?_set]
    split
    · next e =>
      subst e
      rw [if_pos (by omega), h1]
    · rfl

theorem fold_set : ∀ (l : List Value) (k : Nat) (c : Array Value), c.size = k + l.length →
    ((l.zipIdx k).foldl (fun (cs : Array Value) (x : Value × Nat) => cs.setIfInBounds x.snd x.fst) c).toList = c.toList.take k ++ l
  | [], k, c, h => by
    simp only [List.length_nil, Nat.add_zero] at h
    subst h
    simp [← Array.length_toList]
  | x :: l, k, c, h => by
    rw [List.zipIdx_cons, List.foldl_cons, fold_set l (k + 1) _ (by simp at h ⊢; omega)]
    simp only [Array.toList_setIfInBounds]
    have hk : k < c.toList.length := by simp at h ⊢; omega
    rw [List.take_add_one, List.take_set_of_le (Nat.le_refl _), List.getElem?_set_self hk]
    simp

theorem build_table (c : Array Value) (U : List Nat) (n : Nat) (hn : n = U.length) (hc : c.size = U.length) : Array.foldl (fun (cs : Array Value) (x : Value × Nat) => cs.setIfInBounds x.snd x.fst) c (cellsT U).zipIdx 0 n = cellsT U := by
  subst hn
  have h1 : (cellsT U).zipIdx = (((U.map U64).zipIdx 0)).toArray := by
    unfold cellsT
    simp
  rw [h1]
  have h2 : (((U.map U64).zipIdx 0)).length = U.length := by simp
  have h3 : Array.foldl (fun (cs : Array Value) (x : Value × Nat) => cs.setIfInBounds x.snd x.fst) c (((U.map U64).zipIdx 0)).toArray 0 U.length = ((U.map U64).zipIdx 0).foldl (fun (cs : Array Value) (x : Value × Nat) => cs.setIfInBounds x.snd x.fst) c := by
    rw [← h2]
    exact List.foldl_toArray' _ _ _ (by simp)
  rw [h3]
  apply Array.ext'
  rw [fold_set _ 0 c (by simpa using hc)]
  simp [cellsT]

set_option maxRecDepth 100000 in
theorem zero_prec : (Tryd.prog.info? 94).map (fun i => (i.zero, i.size)) = some (some (.agg (cellsT zeroT)), 256) := by kernel_rfl

theorem run_zero_prec (w : World) : (zeroValue 94).run Tryd.prog w = .ok (.agg (cellsT zeroT)) w := (zero_of_info zero_prec).1 w

set_option maxRecDepth 100000 in
set_option maxHeartbeats 3200000 in
theorem close_any (n : Int) (v : Value) (ps : List (Int × Int)) (w : World) (h : Prs w v ps) :
    Calls Tryd.prog 20 #[.int .i64 n, v] w (CloseO n ps w) := by
  obtain ⟨ao, cap, rfl, hcap, hcm, _⟩ := Row.flat h
  unfold maxLen at hcm
  have HP : Hid (Prs w (.slice ao ps.length cap) ps) := h
  clear h
  have hz := run_zero_table
  by_cases hn0 : n < 0
  · go_enter Tryd.func20, Tryd.ntmps20
    go_wp2
    go_ret2
    exact closeO_err (closeE_arg (.inl hn0)) (by decide) (Below.refl _ _)
  by_cases hn1 : 128 < n
  · go_enter Tryd.func20, Tryd.ntmps20
    go_wp2
    go_ret2
    exact closeO_err (closeE_arg (.inr hn1)) (by decide) (Below.refl _ _)
  have hn2 : 0 ≤ n := by omega
  have hn3 : n ≤ 128 := by omega
  have hd0 : decide (n < 0) = false := by simpa using hn0
  have hd1 : decide (128 < n) = false := by simpa using hn1
  clear hn0 hn1
  go_enter Tryd.func20, Tryd.ntmps20
  go_wp2
  go_loopw [20] (fun i wr => ∃ (k : Nat) (T : List Nat), k ≤ ps.length ∧ i = .int .i64 k ∧ ToldT (ps.take k) T ∧ InN n (ps.take k) ∧ Tb 89 wr w.heap.size T ∧ Below w.heap.size w wr) (fun i _ => ps.length - (intOf i).toNat)
  case atStart => exact ⟨0, zeroT, by omega, rfl, told_zero, (fun x hx => by simp at hx), heap_alloc_new _ _, below_alloc _⟩
  case round =>
    obtain ⟨k, T, hk, rfl, hT, hI, hb, hbl⟩ := hrel
    have HT : Hid (ToldT (ps.take k) T) := hT
    have HI : Hid (InN n (ps.take k)) := hI
    have HB : Hid (Tb 89 wr w.heap.size T) := hb
    have HL : Hid (Below w.heap.size w wr) := hbl
    clear hT hI hb hbl
    by_cases hlt : k < ps.length
    · obtain ⟨g, off, a, b, rfl, hab, c1, c2, ha, hb⟩ := (HP.out.later HL.out).at hlt
      have HAB : Hid (ps[k]? = some (a, b)) := hab
      clear hab
      go_wp2
      go_region
      obtain ⟨w2, hw2⟩ : ∃ X, X = (wr.alloc (.cells #[.int .i64 a, .int .i64 b] 54)).drew := ⟨_, rfl⟩
      have hstep : Below wr.heap.size wr w2 := by rw [hw2]; exact (below_alloc _).drew
      have HB2 : Hid (Tb 89 w2 w.heap.size T) := HB.out.later hstep
      have HL2 : Hid (Below w.heap.size w w2) := HL.out.trans (hstep.mono HL.out.size)
      rw [← hw2]
      clear hw2 hstep HB HL c1 c2
      go_wp2_with fail
      refine (isSymbol_any n a w2).mono ?_
      rintro e w3 ⟨rfl, hw3⟩
      subst hw3
      by_cases h1 : 0 ≤ a ∧ a < n
      · have e1 : decide (0 ≤ a ∧ a < n) = true := by simp [h1]
        rw [e1]
        have H1 := hidP h1
        clear e1 h1
        go_wp2_with fail
        refine (isSymbol_any n b w3).mono ?_
        rintro e w4 ⟨rfl, hw4⟩
        subst hw4
        by_cases h2 : 0 ≤ b ∧ b < n
        · have e2 : decide (0 ≤ b ∧ b < n) = true := by simp [h2]
          rw [e2]
          clear e2
          have h1 := H1.out
          obtain ⟨f, rfl⟩ := Int.eq_ofNat_of_zero_le h1.1
          obtain ⟨g', rfl⟩ := Int.eq_ofNat_of_zero_le h2.1
          have hf : f < 128 := by omega
          have hg : g' < 128 := by omega
          have hfi : (f : Int) < 128 := by omega
          obtain ⟨x, y, hx1, hy1, hx2, hy2⟩ := tab_row HT.out.1 hf
          obtain ⟨x2, y2, hw5, hset⟩ := with_form HT.out.1 hf hg hx1 hy1
          have c1 := HB2.out.cell hx1
          have c2 := HB2.out.cell hy1
          have HX := hidP hx1
          have HY := hidP hy1
          have HW := hidP hw5
          have HS := hidP hset
          have HI2 : Hid (InN n (ps.take (k + 1))) := inN_take_step HI.out HAB.out h1 h2
          have HT2 : Hid (ToldT (ps.take (k + 1)) (setN T f g')) := by rw [take_get HAB.out]; exact told_step HT.out hf hg
          clear hx1 hy1 hw5 hset h1 h2 H1 HI
          go_wp2_with fail
          refine (with_any x y g' w4 hx2 hy2 hg).mono ?_
          rintro e w5 ⟨rfl, hb5⟩
          rw [HW.out]
          have HB3 : Hid (Tb 89 w5 w.heap.size T) := HB2.out.later hb5
          have HL3 : Hid (Below w.heap.size w w5) := HL2.out.trans (hb5.mono HL2.out.size)
          clear hb5 c1 c2 HB2 HL2 HT
          have c1 := HB3.out.cell HX.out
          have c2 := HB3.out.cell HY.out
          have c3 := HB3.out.frozen (f * 2)
          have c4 := HB3.out.frozen (f * 2 + 1)
          have HB4 := hidP (HB3.out.row (f * 2) x2 y2)
          rw [HS.out] at HB4
          have HL4 := hidP ((HL3.out.setCell (p := ⟨w.heap.size, f * 2, none⟩) (Nat.le_refl _) (.int .u64 (x2 : Int))).setCell (p := ⟨w.heap.size, f * 2 + 1, none⟩) (Nat.le_refl _) (.int .u64 (y2 : Int)))
          go_wp2
          go_roundw
          case rel => exact ⟨k + 1, setN T f g', by omega, by go_num, HT2.out, HI2.out, HB4.out, HL4.out⟩
          case measure => simp [intOf]; omega
        · have e2 : decide (0 ≤ b ∧ b < n) = false := by simp only [decide_eq_false_iff_not]; exact h2
          rw [e2]
          have H2 := hidP h2
          clear e2 h2
          go_wp2
          go_ret2
          exact closeO_err (closeE_sym hn2 hn3 (not_inN HAB.out (fun h => H2.out h.2))) (by decide) HL2.out
      · have e1 : decide (0 ≤ a ∧ a < n) = false := by simp only [decide_eq_false_iff_not]; exact h1
        rw [e1]
        have H1 := hidP h1
        clear e1 h1
        go_wp2
        go_ret2
        exact closeO_err (closeE_sym hn2 hn3 (not_inN HAB.out (fun h => H1.out h.1))) (by decide) HL2.out
    · obtain rfl : k = ps.length := by omega
      have hI2 := HI.out
      have hT2 := HT.out
      rw [List.take_length] at hI2 hT2
      have HI3 := hidP hI2
      have HT3 := hidP hT2
      clear hI2 hT2 HI HT
      go_wp2_with (first
        | fail
        | (refine wpList_load_row rfl _ _ rfl w.heap.size rfl _ _ _ _ HB.out under_table rfl (by rw [info_table, cellsT_size, HT3.out.1.len]) ?_))
      refine (closed_any (PR ps) T wr HT3.out.1 (HT3.out.mid HI3.out hn3)).mono ?_
      rintro e w2 ⟨U, rfl, hU, hcl, hb2⟩
      have HU := hidP hU
      have HC : Hid (∀ i j, TR U i j ↔ Up ps i j) := up_of_closed hcl
      have HL2 : Hid (Below w.heap.size w w2) := HL.out.trans (hb2.mono HL.out.size)
      clear hU hcl hb2 HL HB HT3
      go_wp2_with (first
        | fail
        | (refine wpList_store_row rfl _ _ _ rfl w2.heap.size (cellsT U) rfl rfl _ _ (heap_alloc_new _ _) (by rw [info_table, cellsT_size, HU.out.len]) (by rw [cellsT_size, cellsT_size, HU.out.len]; rfl) (cellsT_one _) ?_))
      rw [World.setRow_alloc_new]
      obtain ⟨w3, hw3⟩ : ∃ X, X = w2.alloc (.cells (cellsT U) 89) := ⟨_, rfl⟩
      have HB3 : Hid (Tb 89 w3 w2.heap.size U) := by rw [hw3]; exact heap_alloc_new _ _
      have HL3 : Hid (Below w.heap.size w w3) := by rw [hw3]; exact HL2.out.trans ((below_alloc _).mono HL2.out.size)
      rw [← hw3]
      clear hw3
      simp only [Act.put]
      refine wp_load_row _ _ rfl w2.heap.size rfl _ _ _ _ HB3.out under_table rfl (by rw [info_table, cellsT_size, HU.out.len]) ?_
      go_wp2_with fail
      refine (hasCycle_any U w3 HU.out).mono ?_
      rintro e w4 ⟨rfl, hb4⟩
      have HB4 : Hid (Tb 89 w4 w2.heap.size U) := HB3.out.later hb4
      have HL4 : Hid (Below w.heap.size w w4) := HL3.out.trans (hb4.mono HL3.out.size)
      clear hb4 HB3 HL3
      cases hc : cycB U 128 with
      | true =>
        have HX : Hid (∃ i, Up ps i i) := by
          obtain ⟨i, hi⟩ := (cycB_iff U).1 hc
          exact ⟨i, (HC.out i i).1 hi⟩
        clear hc
        go_wp2
        go_ret2
        exact closeO_err (closeE_cyc hn2 hn3 HI3.out HX.out) (by decide) HL4.out
      | false =>
        have HX : Hid (∀ i, ¬ Up ps i i) := fun i hi => by
          have := (cycB_iff U).2 ⟨i, (HC.out i i).2 hi⟩
          rw [hc] at this
          cases this
        clear hc
        have hs1 : (cellsT U).size = 256 := by rw [cellsT_size]; exact HU.out.len
        have hs2 : (cellsT zeroT).size = 256 := by rw [cellsT_size]; rfl
        go_wp2_with (first
          | (refine wpList_load_row rfl _ _ rfl w2.heap.size rfl _ _ _ _ HB4.out under_table rfl (by rw [info_table, cellsT_size, HU.out.len]) ?_))
        rw [build_table Tryd.zeroCells94 U 256 HU.out.len.symm (by rw [HU.out.len]; kernel_rfl)]
        go_ret2
        exact ⟨HL4.out.trans ((below_alloc _).mono HL4.out.size), .inr ⟨closeE_ok hn2 hn3 HI3.out HX.out, w4.heap.size, rfl, w4.heap.size, U, rfl, HU.out, heap_alloc_new _ _, HC.out⟩⟩

end Go.Proofs.YthjghdpiokpnfaaDoor

/- The examples of layer 10. -/
namespace Go.Proofs.YthjghdpiokpnfaaDoor
open Go.RowKit Go.Maps

theorem exA_ok : closeE 3 [(2, 1), (1, 0)] = 0 := by
  refine closeE_ok (by decide) (by decide) ?_ ?_
  · intro x hx
    simp only [List.mem_cons, List.not_mem_nil, or_false] at hx
    rcases hx with rfl | rfl <;> decide
  · intro i hi
    have := hi (fun i j => j < i) (fun i j hp => by
      simp only [PR, List.mem_cons, Prod.mk.injEq, List.not_mem_nil, or_false] at hp
      omega) (fun i j k h1 h2 => Nat.lt_trans h2 h1)
    exact Nat.lt_irrefl _ this

theorem exA_less {i j : Nat} (h : Up [(2, 1), (1, 0)] i j) : j < i :=
  h (fun i j => j < i) (fun i j hp => by
    simp only [PR, List.mem_cons, Prod.mk.injEq, List.not_mem_nil, or_false] at hp
    omega) (fun i j k h1 h2 => Nat.lt_trans h2 h1)

theorem exA_20 : abB [(2, 1), (1, 0)] 2 0 = true :=
  (abB_nat _ 2 0).2 (Up.tr _ 2 1 0 (Up.base (by simp [PR])) (Up.base (by simp [PR])))

theorem exA_no {f g : Int} (h : ¬ (0 ≤ f ∧ 0 ≤ g ∧ g < f)) : abB [(2, 1), (1, 0)] f g = false := by
  rw [Bool.eq_false_iff]
  intro hh
  rw [abB_iff] at hh
  have := exA_less hh.2.2
  omega

theorem exB_cyc : closeE 2 [(0, 1), (1, 0)] = 101 := by
  refine closeE_cyc (by decide) (by decide) ?_ ⟨0, Up.tr _ 0 1 0 (Up.base (by simp [PR])) (Up.base (by simp [PR]))⟩
  intro x hx
  simp only [List.mem_cons, List.not_mem_nil, or_false] at hx
  rcases hx with rfl | rfl <;> decide

theorem exC_sym : closeE 2 [(0, 2)] = 100 := closeE_sym (by decide) (by decide) (fun h => by
  have := h (0, 2) (List.mem_cons_self ..)
  simp at this)

theorem exD_arg : closeE 129 [] = 1 := closeE_arg (.inr (by decide))

theorem CloseO.ok {n : Int} {ps : List (Int × Int)} {w w' : World} {e : Ending} (h : CloseO n ps w e w') (h0 : closeE n ps = 0) : Below w.heap.size w w' ∧ ∃ g, e = .returned (.tuple #[.pointer (some ⟨g, 0, none⟩), .int .i64 0]) ∧ Pc w' (.pointer (some ⟨g, 0, none⟩)) ps := by
  rcases h.2 with ⟨h1, _⟩ | ⟨_, h2⟩
  · exact absurd h0 h1
  · exact ⟨h.1, h2⟩

theorem CloseO.err {n c : Int} {ps : List (Int × Int)} {w w' : World} {e : Ending} (h : CloseO n ps w e w') (h0 : closeE n ps = c) (hc : c ≠ 0) : Below w.heap.size w w' ∧ e = .returned (.tuple #[.pointer none, .int .i64 c]) := by
  subst h0
  rcases h.2 with ⟨_, h1⟩ | ⟨h2, _⟩
  · exact ⟨h.1, h1⟩
  · exact absurd h2 hc

/-- Two pairs, just laid. -/
theorem prs_two (w : World) (a b c d : Int) (ha : -9223372036854775808 ≤ a ∧ a ≤ 9223372036854775807) (hb : -9223372036854775808 ≤ b ∧ b ≤ 9223372036854775807) (hc : -9223372036854775808 ≤ c ∧ c ≤ 9223372036854775807) (hd : -9223372036854775808 ≤ d ∧ d ≤ 9223372036854775807) :
    Prs (w.alloc (.cells #[.int .i64 a, .int .i64 b, .int .i64 c, .int .i64 d] 54)) (.slice (some ⟨w.heap.size, 0, none⟩) 2 2) [(a, b), (c, d)] := by
  refine ⟨_, 2, rfl, Nat.le_refl _, by decide, fun _ => ⟨w.heap.size, 0, rfl, by simp, fun k x hk => ?_⟩⟩
  have hcell := fun j => cell_of_row _ w.heap.size j _ _ _ (heap_alloc_new w (.cells #[.int .i64 a, .int .i64 b, .int .i64 c, .int .i64 d] 54))
  match k, hk with
  | 0, hk => cases hk; exact ⟨ha, hb, hcell 0, hcell 1⟩
  | 1, hk => cases hk; exact ⟨hc, hd, hcell 2, hcell 3⟩

theorem prs_one (w : World) (a b : Int) (ha : -9223372036854775808 ≤ a ∧ a ≤ 9223372036854775807) (hb : -9223372036854775808 ≤ b ∧ b ≤ 9223372036854775807) :
    Prs (w.alloc (.cells #[.int .i64 a, .int .i64 b] 54)) (.slice (some ⟨w.heap.size, 0, none⟩) 1 1) [(a, b)] := by
  refine ⟨_, 1, rfl, Nat.le_refl _, by decide, fun _ => ⟨w.heap.size, 0, rfl, by simp, fun k x hk => ?_⟩⟩
  have hcell := fun j => cell_of_row _ w.heap.size j _ _ _ (heap_alloc_new w (.cells #[.int .i64 a, .int .i64 b] 54))
  match k, hk with
  | 0, hk => cases hk; exact ⟨ha, hb, hcell 0, hcell 1⟩

end Go.Proofs.YthjghdpiokpnfaaDoor

/- Rows of pairs of one's own. -/
namespace Go.Proofs.YthjghdpiokpnfaaDoor
open Go.RowKit Go.Maps

/-- The cells of a row of pairs. -/
def cellsQ (ps : List (Int × Int)) : List Value := ps.flatMap fun x => [.int .i64 x.1, .int .i64 x.2]

theorem cellsQ_len (ps : List (Int × Int)) : (cellsQ ps).length = ps.length * 2 := by
  induction ps with
  | nil => rfl
  | cons x ps ih =>
    unfold cellsQ at ih ⊢
    rw [List.flatMap_cons, List.length_append, ih]
    simp only [List.length_cons, List.length_nil]
    omega

theorem cellsQ_append (ps qs : List (Int × Int)) : cellsQ (ps ++ qs) = cellsQ ps ++ cellsQ qs := List.flatMap_append

theorem cellsQ_at : ∀ {ps : List (Int × Int)} {k : Nat} {x : Int × Int}, ps[k]? = some x → (cellsQ ps)[k * 2]? = some (.int .i64 x.1) ∧ (cellsQ ps)[k * 2 + 1]? = some (.int .i64 x.2)
  | [], k, x, h => by simp at h
  | y :: ps, 0, x, h => by
    simp only [List.getElem?_cons_zero, Option.some.injEq] at h
    subst h
    exact ⟨rfl, rfl⟩
  | y :: ps, k + 1, x, h => by
    simp only [List.getElem?_cons_succ] at h
    have ih := cellsQ_at h
    have e : cellsQ (y :: ps) = .int .i64 y.1 :: .int .i64 y.2 :: cellsQ ps := rfl
    rw [e, show (k + 1) * 2 = k * 2 + 1 + 1 by omega]
    simpa using ih

def Bd64 (ps : List (Int × Int)) : Prop := ∀ (k : Nat) (x : Int × Int), ps[k]? = some x → (-9223372036854775808 ≤ x.1 ∧ x.1 ≤ 9223372036854775807) ∧ (-9223372036854775808 ≤ x.2 ∧ x.2 ≤ 9223372036854775807)

theorem Bd64.append {ps qs : List (Int × Int)} (h : Bd64 ps) (k : Bd64 qs) : Bd64 (ps ++ qs) := fun i x hx => by
  rw [List.getElem?_append] at hx
  split at hx
  · exact h _ _ hx
  · exact k _ _ hx

theorem Prs.bd {w : World} {v : Value} {ps : List (Int × Int)} (h : Prs w v ps) : Bd64 ps := fun k x hk => by
  obtain ⟨ao, cap, rfl, _, _, hx⟩ := Row.flat h
  obtain ⟨_, _, y, _, hy, h1, h2, _⟩ := hx k (List.getElem?_eq_some_iff.1 hk).1
  rw [hk] at hy
  cases hy
  exact ⟨h1, h2⟩

/-- A row of pairs of one's own, at the head of its row. -/
def OwQ (w : World) (base : Nat) (v : Value) (ps : List (Int × Int)) : Prop := Bd64 ps ∧ w.ownsRow base 54 2 v ps.length (cellsQ ps)

theorem OwQ.prs {w : World} {base : Nat} {v : Value} {ps : List (Int × Int)} (h : OwQ w base v ps) : Prs w v ps := by
  have h2 := h.2
  rcases h2.2 with ⟨rfl, hn⟩ | ⟨g, cap, cur, rfl, hb, hg, hc, hm, hs, ht⟩
  · exact ⟨none, 0, by rw [hn], by omega, by simp [maxLen], by omega⟩
  · refine ⟨_, cap, rfl, hc, hm, fun _ => ⟨g, 0, rfl, (Array.getElem?_eq_some_iff.1 hg).1, ?_⟩⟩
    intro k x hk
    have hlt : k < ps.length := (List.getElem?_eq_some_iff.1 hk).1
    have hc := cellsQ_at hk
    refine ⟨(h.1 k x hk).1, (h.1 k x hk).2, ?_, ?_⟩
    · rw [Nat.zero_add, World.ownsRow.cellAt h2 (k * 2) (by omega)]
      exact hc.1
    · rw [Nat.zero_add, World.ownsRow.cellAt h2 (k * 2 + 1) (by omega)]
      exact hc.2

theorem OwQ.later {w w' : World} {base : Nat} {v : Value} {ps : List (Int × Int)} (h : OwQ w base v ps) (hb : Below w.heap.size w w') : OwQ w' base v ps := ⟨h.1, ownsRow_later h.2 hb⟩

theorem info_pairP : (Tryd.prog.info? 54).map (fun i => (i.zero, i.size, i.bytes)) = some (some (.agg #[.int .i64 0, .int .i64 0]), 2, 16) := by kernel_rfl

theorem under_pairsP : Tryd.prog.underlying 23 = some (.slice 54) := by kernel_rfl

theorem info_parts3 {t : TypeId} {z : Value} {n b : Nat} (h : (Tryd.prog.info? t).map (fun i => (i.zero, i.size, i.bytes)) = some (some z, n, b)) : ∃ i, Tryd.prog.info? t = some i ∧ i.zero = some z ∧ i.size = n ∧ i.bytes = b := by
  cases hi : Tryd.prog.info? t with
  | none => rw [hi] at h; cases h
  | some i =>
    rw [hi] at h
    simp only [Option.map_some, Option.some.injEq, Prod.mk.injEq] at h
    exact ⟨i, rfl, h.1, h.2.1, h.2.2⟩

/-- A row of pairs joined to one of one's own. -/
theorem join_prs (ty : TypeId) {w : World} {base : Nat} {v u : Value} {ps qs : List (Int × Int)} (ho : OwQ w base v ps) (hq : Prs w u qs) (hb : base ≤ w.heap.size) (hl : (ps.length + qs.length) * 16 ≤ 140737488355328) :
    ∃ v' w', (Builtin.append_ #[23, 23] ty #[v, u]).run Tryd.prog w = .ok v' w' ∧ OwQ w' base v' (ps ++ qs) ∧ w.grownBy w' v.ownBlock ∧ (v'.ownBlock = v.ownBlock ∨ v'.ownBlock = some w.heap.size) := by
  obtain ⟨i0, hi, hz0, hz1, hz2⟩ := info_parts3 info_pairP
  have hbd := ho.1.append hq.bd
  obtain ⟨ao, cap, rfl, hc, hm, hx⟩ := hq
  by_cases h0 : qs.length = 0
  · obtain rfl : qs = [] := List.eq_nil_of_length_eq_zero h0
    obtain ⟨av, cv, hv, hcv⟩ : ∃ av cv, v = .slice av ps.length cv ∧ ps.length ≤ cv := by
      rcases ho.2.2 with ⟨rfl, hn⟩ | ⟨g, cap, cur, rfl, _, _, hc, _⟩
      · exact ⟨none, 0, by rw [hn], by omega⟩
      · exact ⟨_, cap, rfl, hc⟩
    subst hv
    refine ⟨_, w, run_append_nothing w 23 23 ty 54 i0 under_pairsP hi av ps.length cv hcv _ ?_, by rw [List.append_nil]; exact ho, World.grownBy.refl _ _, .inl rfl⟩
    cases ao with
    | none => exact Src.ofNil w under_pairsP _
    | some a => exact Src.ofSlice w under_pairsP a 0 _ [] (by simp) (fun j u hj => (by simp at hj)) (fun u hu => (by simp at hu))
  · obtain ⟨g', off, rfl, hg, hcell⟩ := hx (by omega)
    obtain ⟨v', w', hr, h2, h3, _, h5⟩ := run_append_own_at (P := Tryd.prog) w base 23 ty 54 i0 _ 2 16 under_pairsP hi hz0 hz1 hz2 rfl (by decide) _ ps.length (cellsQ ps) ho.2 ⟨g', off, none⟩ qs.length cap (cellsQ qs) (cellsQ_len qs) (fun j u hj => by
      have hlt := (List.getElem?_eq_some_iff.1 hj).1
      rw [cellsQ_len] at hlt
      have hk : j / 2 < qs.length := by omega
      have hk2 := List.getElem?_eq_getElem hk
      have ha := cellsQ_at hk2
      have hE := hcell (j / 2) _ hk2
      rw [Addr.add_lit]
      rcases (show j = j / 2 * 2 ∨ j = j / 2 * 2 + 1 by omega) with e | e
      · rw [e, ha.1] at hj
        cases hj
        have h9 := hE.2.2.1
        rw [← e] at h9
        exact h9
      · rw [e, ha.2] at hj
        cases hj
        have h9 := hE.2.2.2
        rw [Nat.add_assoc, ← e] at h9
        exact h9) (fun u hu => by
      unfold cellsQ at hu
      obtain ⟨x, _, hx2⟩ := List.mem_flatMap.1 hu
      simp only [List.mem_cons, List.not_mem_nil, or_false] at hx2
      rcases hx2 with rfl | rfl <;> rfl) (by unfold maxLen; omega) (by omega) hb
    refine ⟨v', w', hr, ⟨hbd, ?_⟩, h3, h5⟩
    rw [List.length_append, cellsQ_append]
    exact h2

theorem wpList_append_runP {P : Program} {w w' : World} {ops : Array Oper} {rest : List Oper} {o : Oper} {a : Act} {v' : Value} {Q : Exit → Act → World → Prop} (hgd : o.guard = none) (s x : Operand) (t : TypeId)
    (ho : o.op = .call { callee := .builtin .append, args := #[s, x], argTypes := #[t, t] }) (v u : Value) (hs : a.eval s = v) (hx : a.eval x = u)
    (hr : (Builtin.append_ #[t, t] o.type #[v, u]).run P w = .ok v' w') (h : wpList P ops Q rest (a.put o.dst v') w') : wpList P ops Q (o :: rest) a w := by
  refine wpList_plain hgd fun K hK => ?_
  unfold Oper.wp execOp
  simp only [ho, resolve, invoke, builtin, Sem.run_bind, Sem.run_pure, Result.andThen_ok, List.map_toArray, List.map_cons, List.map_nil, hs, hx, hr]
  exact hK _ _ h

/-- No pairs, just laid. -/
theorem empty_prs {w : World} {base : Nat} (hb : base ≤ w.heap.size) : OwQ (w.alloc (.cells #[] 54)) base (.slice (some ⟨w.heap.size, 0, none⟩) 0 0) [] :=
  ⟨fun k x h => by simp at h, rfl, .inr ⟨w.heap.size, 0, #[], rfl, hb, heap_alloc_new _ _, Nat.le_refl _, Nat.zero_le _, rfl, rfl⟩⟩

theorem OwQ.grown {w0 w w' : World} {v : Value} {ps : List (Int × Int)} (h : OwQ w w0.heap.size v ps) (hB : Below w0.heap.size w0 w) (hg : w.grownBy w' v.ownBlock) : Below w0.heap.size w0 w' :=
  hB.grown hg hB.size (fun _ hk => (World.ownsRow.lt h.2 _ hk).1)

end Go.Proofs.YthjghdpiokpnfaaDoor

/- By way of each symbol in turn, plainly. -/
namespace Go.Proofs.YthjghdpiokpnfaaDoor

/-- What has been told as far as the place (i, j), by way of k. -/
def stp (W : Nat → Nat → Bool) (k i j : Nat) : Nat → Nat → Bool := fun a b => W a b || (decide (a < i ∨ (a = i ∧ b < j)) && W a k && W k b)

theorem stp_start (W : Nat → Nat → Bool) (k : Nat) : stp W k 0 0 = W := by
  funext a b
  simp [stp]

theorem stp_row (W : Nat → Nat → Bool) (k i j b : Nat) : stp W k i j k b = W k b := by
  unfold stp
  cases W k b <;> simp

theorem stp_col (W : Nat → Nat → Bool) (k i j a : Nat) : stp W k i j a k = W a k := by
  unfold stp
  cases W a k <;> simp

theorem stp_at (W : Nat → Nat → Bool) (k i j : Nat) : stp W k i j i j = W i j := by simp [stp]

def updB (U : Nat → Nat → Bool) (i j : Nat) (x : Bool) : Nat → Nat → Bool := fun a b => if a = i ∧ b = j then x else U a b

theorem stp_step {W : Nat → Nat → Bool} {k i j : Nat} (h : W i k = true) : updB (stp W k i j) i j (W i j || W k j) = stp W k i (j + 1) := by
  funext a b
  unfold updB stp
  by_cases hc : a = i ∧ b = j
  · obtain ⟨rfl, rfl⟩ := hc
    rw [if_pos ⟨rfl, rfl⟩, h]
    simp
  · rw [if_neg hc, show decide (a < i ∨ a = i ∧ b < j) = decide (a < i ∨ a = i ∧ b < j + 1) from by rw [decide_eq_decide]; omega]

theorem stp_skip {W : Nat → Nat → Bool} {k i : Nat} (h : W i k = false) : stp W k i 0 = stp W k (i + 1) 0 := by
  funext a b
  unfold stp
  by_cases hc : a = i
  · subst hc
    simp [h]
  · rw [show decide (a < i ∨ a = i ∧ b < 0) = decide (a < i + 1 ∨ a = i + 1 ∧ b < 0) from by rw [decide_eq_decide]; omega]

theorem stp_next (W : Nat → Nat → Bool) (k i n a b : Nat) (hb : b < n) : stp W k i n a b = stp W k (i + 1) 0 a b := by
  unfold stp
  rw [show decide (a < i ∨ a = i ∧ b < n) = decide (a < i + 1 ∨ a = i + 1 ∧ b < 0) from by rw [decide_eq_decide]; omega]

/-- As far as the symbol k: whatever goes by way of a lesser one is told. -/
structure War (B : Nat → Nat → Prop) (n k : Nat) (U : Nat → Nat → Bool) : Prop where
  base : ∀ i j, B i j → i < n ∧ j < n ∧ U i j = true
  least : ∀ S : Nat → Nat → Prop, (∀ i j, B i j → S i j) → TrP S → ∀ i j, i < n → j < n → U i j = true → S i j
  tr : ∀ i m j, i < n → m < k → j < n → U i m = true → U m j = true → U i j = true

theorem War.congr {B : Nat → Nat → Prop} {n k : Nat} {U V : Nat → Nat → Bool} (h : War B n k U) (hk : k ≤ n) (e : ∀ a b, a < n → b < n → U a b = V a b) : War B n k V :=
  ⟨fun i j hb => by obtain ⟨h1, h2, h3⟩ := h.base i j hb; exact ⟨h1, h2, by rw [← e _ _ h1 h2]; exact h3⟩,
   fun S hb hS i j hi hj hv => h.least S hb hS i j hi hj (by rw [e _ _ hi hj]; exact hv),
   fun i m j hi hm hj h1 h2 => by rw [← e _ _ hi hj]; exact h.tr i m j hi hm hj (by rw [e _ _ hi (by omega)]; exact h1) (by rw [e _ _ (by omega) hj]; exact h2)⟩

theorem War.next {B : Nat → Nat → Prop} {n k : Nat} {W : Nat → Nat → Bool} (h : War B n k W) (hk : k < n) : War B n (k + 1) (stp W k n 0) := by
  have e : ∀ a b, a < n → (stp W k n 0 a b = true ↔ W a b = true ∨ (W a k = true ∧ W k b = true)) := fun a b ha => by
    unfold stp
    simp [ha]
  refine ⟨fun i j hb => ?_, fun S hb hS i j hi hj hv => ?_, fun i m j hi hm hj h1 h2 => ?_⟩
  · obtain ⟨h1, h2, h3⟩ := h.base i j hb
    exact ⟨h1, h2, (e i j h1).2 (.inl h3)⟩
  · rcases (e i j hi).1 hv with hv | ⟨h1, h2⟩
    · exact h.least S hb hS i j hi hj hv
    · exact hS _ _ _ (h.least S hb hS i k hi hk h1) (h.least S hb hS k j hk hj h2)
  · rw [e _ _ hi] at h1 ⊢
    rw [e _ _ (by omega)] at h2
    by_cases hmk : m = k
    · subst hmk
      have h3 : W i m = true := by rcases h1 with h1 | h1; exact h1; exact h1.1
      have h4 : W m j = true := by rcases h2 with h2 | h2; exact h2; exact h2.2
      exact .inr ⟨h3, h4⟩
    · have hm2 : m < k := by omega
      rcases h1 with h1 | ⟨h1, h1'⟩ <;> rcases h2 with h2 | ⟨h2, h2'⟩
      · exact .inl (h.tr i m j hi hm2 hj h1 h2)
      · exact .inr ⟨h.tr i m k hi hm2 hk h1 h2, h2'⟩
      · exact .inr ⟨h1, h.tr k m j hk hm2 hj h1' h2⟩
      · exact .inr ⟨h1, h2'⟩

theorem War.up {ps : List (Int × Int)} {n : Nat} {U : Nat → Nat → Bool} (h : War (PR ps) n n U) (i j : Nat) : (i < n ∧ j < n ∧ U i j = true) ↔ Up ps i j :=
  ⟨fun hh S hb hS => h.least S hb hS i j hh.1 hh.2.1 hh.2.2, fun hu => hu (fun i j => i < n ∧ j < n ∧ U i j = true) h.base (fun i m j h1 h2 => ⟨h1.1, h2.2.1, h.tr i m j h1.1 h1.2.1 h2.2.1 h1.2.2 h2.2.2⟩)⟩

/-- The pairs themselves. -/
def ToldU (ps : List (Int × Int)) (U : Nat → Nat → Bool) : Prop := ∀ i j, U i j = true ↔ PR ps i j

theorem toldU_zero : ToldU [] (fun _ _ => false) := fun i j => by simp [PR]

theorem toldU_step {ps : List (Int × Int)} {U : Nat → Nat → Bool} (h : ToldU ps U) (f g : Nat) : ToldU (ps ++ [((f : Int), (g : Int))]) (updB U f g true) := fun i j => by
  unfold updB PR
  rw [List.mem_append]
  by_cases hc : i = f ∧ j = g
  · obtain ⟨rfl, rfl⟩ := hc
    simp
  · rw [if_neg hc, h i j]
    simp only [List.mem_singleton, Prod.mk.injEq]
    constructor
    · exact .inl
    · rintro (h | ⟨h1, h2⟩)
      · exact h
      · exact absurd ⟨by omega, by omega⟩ hc

theorem ToldU.war {ps : List (Int × Int)} {U : Nat → Nat → Bool} {n : Nat} (h : ToldU ps U) (hn : InN (n : Int) ps) : War (PR ps) n 0 U :=
  ⟨fun i j hp => by have := hn _ hp; simp only at this; exact ⟨by omega, by omega, (h i j).2 hp⟩, fun S hb _ i j _ _ hu => hb i j ((h i j).1 hu), fun _ _ _ _ hm => by omega⟩

end Go.Proofs.YthjghdpiokpnfaaDoor

/- The document's table of what is above what, in memory. -/
namespace Go.Proofs.YthjghdpiokpnfaaDoor
open Go.RowKit Go.Maps

def rowB (n : Nat) (U : Nat → Bool) : Array Value := ((List.range n).map fun j => Value.bool (U j)).toArray

theorem rowB_get {n : Nat} (U : Nat → Bool) {j : Nat} (hj : j < n) : (rowB n U)[j]? = some (.bool (U j)) := by simp [rowB, hj]

theorem rowB_set {n : Nat} (U : Nat → Bool) (j : Nat) (x : Bool) : (rowB n U).setIfInBounds j (.bool x) = rowB n (fun b => if b = j then x else U b) := by
  apply Array.ext_getElem?
  intro k
  rw [Array.getElem?_setIfInBounds]
  by_cases hk : k < n
  · by_cases e : j = k
    · subst e
      rw [if_pos rfl, if_pos (by simp [rowB]; omega), rowB_get _ hk, if_pos rfl]
    · rw [if_neg e, rowB_get _ hk, rowB_get _ hk, if_neg (fun h => e h.symm)]
  · have hs : ∀ V : Nat → Bool, (rowB n V)[k]? = none := fun V => by simp [rowB]; omega
    rw [hs, hs]
    split
    · rw [if_neg (by simp [rowB]; omega)]
    · rfl

structure RUP (base : Nat) (w : World) (gp : Nat) (ro : Option Addr) (rc : Nat) (rb : Nat → Nat) (n k : Nat) (U : Nat → Nat → Bool) : Prop where
  ptr : w.heap[gp]? = some (.cells #[.slice ro k rc] 96 (0, 0))
  lo : base ≤ gp
  own : w.ownsRow base 74 1 (.slice ro k rc) k ((List.range k).map fun i => .slice (some ⟨rb i, 0, none⟩) n n)
  rows : ∀ i, i < k → w.heap[rb i]? = some (.cells (rowB n (U i)) 4 (0, 0))
  low : ∀ i, i < k → base ≤ rb i
  inj : ∀ i j, i < k → j < k → rb i = rb j → i = j

theorem RUP.later {base : Nat} {w w' : World} {gp : Nat} {ro : Option Addr} {rc : Nat} {rb : Nat → Nat} {n k : Nat} {U : Nat → Nat → Bool} (h : RUP base w gp ro rc rb n k U) (hb : Below w.heap.size w w') : RUP base w' gp ro rc rb n k U :=
  ⟨(hb.block _ (Array.getElem?_eq_some_iff.1 h.ptr).1).trans h.ptr, h.lo, ownsRow_later h.own hb, fun i hi => (hb.block _ (Array.getElem?_eq_some_iff.1 (h.rows i hi)).1).trans (h.rows i hi), h.low, h.inj⟩

theorem RUP.congr {base : Nat} {w : World} {gp : Nat} {ro : Option Addr} {rc : Nat} {rb : Nat → Nat} {n k : Nat} {U V : Nat → Nat → Bool} (h : RUP base w gp ro rc rb n k U) (e : ∀ a b, a < k → b < n → U a b = V a b) : RUP base w gp ro rc rb n k V :=
  ⟨h.ptr, h.lo, h.own, fun i hi => by
    rw [h.rows i hi]
    congr 2
    unfold rowB
    congr 1
    exact List.map_congr_left fun j hj => by rw [e i j hi (List.mem_range.1 hj)], h.low, h.inj⟩

theorem RUP.cellP {base : Nat} {w : World} {gp : Nat} {ro : Option Addr} {rc : Nat} {rb : Nat → Nat} {n k : Nat} {U : Nat → Nat → Bool} (h : RUP base w gp ro rc rb n k U) : w.cell? ⟨gp, 0, none⟩ = some (.slice ro k rc) := cell_of_row w gp 0 _ _ _ h.ptr

theorem RUP.form {base : Nat} {w : World} {gp : Nat} {ro : Option Addr} {rc : Nat} {rb : Nat → Nat} {n k : Nat} {U : Nat → Nat → Bool} (h : RUP base w gp ro rc rb n k U) (hk : 0 < k) :
    ∃ g, ro = some ⟨g, 0, none⟩ ∧ k ≤ rc ∧ ∀ i, i < k → w.cell? ⟨g, i, none⟩ = some (.slice (some ⟨rb i, 0, none⟩) n n) := by
  have ho := h.own
  rcases ho.2 with ⟨_, h0⟩ | ⟨g, cap, cur, hv, hb, hg, hc, hm, hs, ht⟩
  · omega
  · simp only [Value.slice.injEq, true_and] at hv
    obtain ⟨rfl, rfl⟩ := hv
    refine ⟨g, rfl, hc, fun i hi => ?_⟩
    rw [World.ownsRow.cellAt ho i (by omega)]
    simp [hi]

theorem RUP.bit {base : Nat} {w : World} {gp : Nat} {ro : Option Addr} {rc : Nat} {rb : Nat → Nat} {n k : Nat} {U : Nat → Nat → Bool} (h : RUP base w gp ro rc rb n k U) {i j : Nat} (hi : i < k) (hj : j < n) : w.cell? ⟨rb i, j, none⟩ = some (.bool (U i j)) := by
  rw [cell_of_row w (rb i) j _ _ _ (h.rows i hi), rowB_get _ hj]

theorem RUP.free {base : Nat} {w : World} {gp : Nat} {ro : Option Addr} {rc : Nat} {rb : Nat → Nat} {n k : Nat} {U : Nat → Nat → Bool} (h : RUP base w gp ro rc rb n k U) {i : Nat} (hi : i < k) (j : Nat) : w.frozen? ⟨rb i, j, none⟩ = false := frozen_of_row w _ _ _ _ (h.rows i hi)

theorem type_ne {w : World} {g g' : Nat} {c c' : Array Value} {t t' : TypeId} (h : w.heap[g]? = some (.cells c t (0, 0))) (h' : w.heap[g']? = some (.cells c' t' (0, 0))) (hne : t ≠ t') : g ≠ g' := by
  rintro rfl
  rw [h] at h'
  simp only [Option.some.injEq, Obj.cells.injEq] at h'
  exact hne h'.2.1

theorem RUP.set {base : Nat} {w : World} {gp : Nat} {ro : Option Addr} {rc : Nat} {rb : Nat → Nat} {n k : Nat} {U : Nat → Nat → Bool} (h : RUP base w gp ro rc rb n k U) {i : Nat} (hi : i < k) (j : Nat) (x : Bool) : RUP base (w.setCell ⟨rb i, j, none⟩ (.bool x)) gp ro rc rb n k (updB U i j x) := by
  refine ⟨?_, h.lo, ⟨h.own.1, ?_⟩, fun i' hi' => ?_, h.low, h.inj⟩
  · exact (heap_setCell_other _ _ _ _ (type_ne h.ptr (h.rows i hi) (by decide))).trans h.ptr
  · rcases h.own.2 with h0 | ⟨g, cap, cur, hv, hb, hg, r⟩
    · exact .inl h0
    · exact .inr ⟨g, cap, cur, hv, hb, (heap_setCell_other _ _ _ _ (type_ne hg (h.rows i hi) (by decide))).trans hg, r⟩
  · by_cases e : i' = i
    · subst e
      rw [heap_setCell_same w (rb i') j _ _ _ (h.rows i' hi'), rowB_set]
      congr 2
      congr 1
      funext b
      simp [updB]
    · rw [heap_setCell_other _ _ _ _ (fun e2 => e (h.inj _ _ hi' hi e2)), h.rows i' hi']
      congr 2
      congr 1
      funext b
      simp [updB, e]

theorem info_rowB : (Tryd.prog.info? 74).map (fun i => (i.zero, i.size, i.bytes)) = some (some (.slice none 0 0), 1, 24) := by kernel_rfl

theorem info_boolB : (Tryd.prog.info? 4).map (fun i => (i.zero, i.size, i.bytes)) = some (some (.bool false), 1, 1) := by kernel_rfl

theorem under_rowsB : Tryd.prog.underlying 71 = some (.slice 74) := by kernel_rfl

theorem under_rowB : Tryd.prog.underlying 74 = some (.slice 4) := by kernel_rfl

theorem made_bool (n : Nat) : madeCells (Value.bool false).cells (n * 1) = rowB n (fun _ => false) := by
  apply Array.ext'
  have : (Value.bool false).cells = #[Value.bool false] := rfl
  rw [this, toList_madeCells_one]
  simp [rowB, List.map_const']

theorem run_make_bool (w : World) (n : Nat) (hn : n ≤ 128) : (Instr.makeSlice 74 (.int .i64 (n : Int)) (.int .i64 (n : Int))).run Tryd.prog w = .ok (.slice (some ⟨w.heap.size, 0, none⟩) n n) (w.alloc (.cells (rowB n (fun _ => false)) 4)) := by
  obtain ⟨i0, hi, hz0, hz1, hz2⟩ := info_parts3 info_boolB
  have h := run_make (P := Tryd.prog) w 74 4 i0 (.bool false) under_rowB hi hz0 .i64 .i64 (n : Int) (n : Int) (by omega) (Int.le_refl _) (by rw [hz2]; omega) (by omega)
  rw [hz1, Int.toNat_natCast, made_bool] at h
  exact h

set_option maxRecDepth 100000 in
/-- A row more. -/
theorem ru_grow {base : Nat} {w : World} {gp : Nat} {ro : Option Addr} {rc : Nat} {rb : Nat → Nat} {n k : Nat} (h : RUP base w gp ro rc rb n k (fun _ _ => false)) (hb : base ≤ w.heap.size) (hk : k < 128) {B : Nat} {w0 : World} (hB : Below B w0 w) (hBb : B ≤ base) :
    ∃ ro' rc' w3, (Builtin.append_ #[71, 71] 71 #[.slice ro k rc, .slice (some ⟨w.heap.size + 1, 0, none⟩) 1 1]).run Tryd.prog ((w.alloc (.cells (rowB n (fun _ => false)) 4)).alloc (.cells #[.slice (some ⟨w.heap.size, 0, none⟩) n n] 74)) = .ok (.slice ro' (k + 1) rc') w3 ∧
      w3.cell? ⟨gp, 0, none⟩ = some (.slice ro k rc) ∧ w3.frozen? ⟨gp, 0, none⟩ = false ∧ RUP base (w3.setCell ⟨gp, 0, none⟩ (.slice ro' (k + 1) rc')) gp ro' rc' (fun i => if i = k then w.heap.size else rb i) n (k + 1) (fun _ _ => false) ∧
      Below B w0 (w3.setCell ⟨gp, 0, none⟩ (.slice ro' (k + 1) rc')) := by
  obtain ⟨i0, hi, hz0, hz1, hz2⟩ := info_parts3 info_rowB
  obtain ⟨w2, hw2⟩ : ∃ X, X = (w.alloc (.cells (rowB n (fun _ => false)) 4)).alloc (.cells #[.slice (some ⟨w.heap.size, 0, none⟩) n n] 74) := ⟨_, rfl⟩
  have hb2 : Below w.heap.size w w2 := by rw [hw2]; exact below_step (below_alloc _) (below_alloc _)
  have hr : w2.heap[w.heap.size]? = some (.cells (rowB n (fun _ => false)) 4 (0, 0)) := by rw [hw2]; exact heap_alloc2_old _ _ _
  have hl : w2.heap[w.heap.size + 1]? = some (.cells #[.slice (some ⟨w.heap.size, 0, none⟩) n n] 74 (0, 0)) := by rw [hw2]; exact heap_alloc2_new _ _ _
  have h2 := h.later hb2
  obtain ⟨v', w3, hrun, ho3, hg3, _, _⟩ := run_append_own_at (P := Tryd.prog) w2 base 71 71 74 i0 _ 1 24 under_rowsB hi hz0 hz1 hz2 rfl (by decide) _ k _ h2.own ⟨w.heap.size + 1, 0, none⟩ 1 1 [.slice (some ⟨w.heap.size, 0, none⟩) n n] rfl (fun j u hj => by
    rw [Addr.add_lit]
    match j, hj with
    | 0, hj =>
      cases hj
      exact cell_of_row w2 _ _ _ _ _ hl) (fun u hu => by
    simp only [List.mem_singleton] at hu
    subst hu
    rfl) (by unfold maxLen; omega) (by omega) (Nat.le_trans hb hb2.size)
  obtain ⟨g3, rc', hv⟩ := own_form ho3 (by omega)
  subst hv
  rw [← hw2]
  have hne : ∀ (g : Nat) (c : Array Value) (t : TypeId), w2.heap[g]? = some (.cells c t (0, 0)) → t ≠ 74 → w3.heap[g]? = some (.cells c t (0, 0)) := fun g c t hg ht => by
    refine (hg3.block g (Array.getElem?_eq_some_iff.1 hg).1 (fun e => ?_)).trans hg
    rcases h2.own.2 with ⟨hv, _⟩ | ⟨g', cap', cur', hv, _, hg', _⟩
    · rw [hv] at e; cases e
    · rw [hv] at e
      simp only [Value.ownBlock, Option.some.injEq] at e
      subst e
      exact type_ne hg hg' ht rfl
  have hp3 := hne _ _ _ h2.ptr (by decide)
  have hgp : ∀ (g : Nat) (c : Array Value) (t : TypeId), w3.heap[g]? = some (.cells c t (0, 0)) → t ≠ 96 → (w3.setCell ⟨gp, 0, none⟩ (.slice (some ⟨g3, 0, none⟩) (k + 1) rc')).heap[g]? = some (.cells c t (0, 0)) := fun g c t hg ht =>
    (heap_setCell_other _ _ _ _ (type_ne hg hp3 ht)).trans hg
  have hB3 : Below B w0 w3 := (hB.trans (hb2.mono (Nat.le_trans hBb hb))).grown hg3 (by have := hB.size; have := hb2.size; omega) (fun j hj => Nat.le_trans hBb (World.ownsRow.lt h2.own _ hj).1)
  refine ⟨_, _, w3, hrun, cell_of_row w3 gp 0 _ _ _ hp3, frozen_of_row w3 gp 0 _ _ hp3, ⟨?_, h.lo, ⟨by simp, ?_⟩, fun i hi' => ?_, fun i hi' => ?_, fun i j hi' hj' e => ?_⟩, hB3.setCell (p := ⟨gp, 0, none⟩) (Nat.le_trans hBb h.lo) _⟩
  · rw [heap_setCell_same w3 gp 0 _ _ _ hp3]
    rfl
  · rcases ho3.2 with ⟨hv, _⟩ | ⟨g', cap', cur', hv, hb', hg', hc', hm', hs', ht'⟩
    · cases hv
    · refine .inr ⟨g', cap', cur', hv, hb', hgp _ _ _ hg' (by decide), hc', hm', hs', ht'.trans ?_⟩
      rw [List.range_succ, List.map_append]
      simp only [List.map_cons, List.map_nil, if_true]
      congr 1
      exact List.map_congr_left fun i hi' => by rw [if_neg (by have := List.mem_range.1 hi'; omega)]
  · refine hgp _ _ _ ?_ (by decide)
    by_cases e : i = k
    · subst e
      rw [if_pos rfl]
      exact hne _ _ _ hr (by decide)
    · rw [if_neg e]
      exact hne _ _ _ (h2.rows i (by omega)) (by decide)
  · by_cases e : i = k
    · simp only [e, if_true]
      exact hb
    · simp only [e, if_false]
      exact h.low i (by omega)
  · have hlt : ∀ i, i < k → rb i < w.heap.size := fun i hi => (Array.getElem?_eq_some_iff.1 (h.rows i hi)).1
    by_cases e1 : i = k <;> by_cases e2 : j = k
    · omega
    · simp only [e1, e2, if_true, if_false] at e
      have := hlt j (by omega)
      omega
    · simp only [e1, e2, if_true, if_false] at e
      have := hlt i (by omega)
      omega
    · simp only [e1, e2, if_false] at e
      exact h.inj i j (by omega) (by omega) e

end Go.Proofs.YthjghdpiokpnfaaDoor
