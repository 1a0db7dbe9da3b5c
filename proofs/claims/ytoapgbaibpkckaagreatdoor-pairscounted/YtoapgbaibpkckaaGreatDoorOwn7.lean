/- Texts of the proof, one behind the other. -/
import Derived.Test.YtoapgbaibpkckaaGreatDoorOwn6
import Derived.Test.YtoapgbaibpkckaaGreatDoorOwn5
import Derived.Deep.LoopGhost
import Derived.Test.YtoapgbaibpkckaaGreatDoorOwn3
import Derived.Test.YtoapgbaibpkckaaGreatDoorOwn4
import Derived.Test.YtoapgbaibpkckaaGreatDoorOwn2
/- definedBy of package pairs walked; slices.BinarySearch at numbers. -/
namespace Go.Proofs.YtoapgbaibpkckaaGreatDoor
open Go.RowKit Go.Maps Go.BigFrame

set_option maxRecDepth 100000 in
theorem isNaN13_any (x : Int) (w : World) : Calls Tryz.prog 87 #[.int .i64 x] w fun e w' => e = .returned (.bool false) ∧ w' = w := by
  go_enter Tryz.func87, Tryz.ntmps87
  go_wp2
  go_ret
  exact ⟨by simp, rfl⟩

set_option maxRecDepth 100000 in
theorem cmpNaN13_any (x : Int) (w : World) : Calls Tryz.prog 114 #[.int .i64 x] w fun e w' => e = .returned (.bool false) ∧ w' = w := by
  go_enter Tryz.func114, Tryz.ntmps114
  go_wp2
  go_ret
  exact ⟨by simp, rfl⟩

set_option maxRecDepth 100000 in
theorem less13_any (x y : Int) (w : World) : Calls Tryz.prog 86 #[.int .i64 x, .int .i64 y] w fun e w' => e = .returned (.bool (decide (x < y))) ∧ w' = w := by
  go_enter Tryz.func86, Tryz.ntmps86
  go_wp2_with (refine (cmpNaN13_any _ _).mono ?_; rintro e w' ⟨rfl, rfl⟩)
  go_ret
  exact ⟨rfl, rfl⟩

theorem ret_ib {a : Int} {b c : Bool} (h : b = c) : Ending.returned (.tuple #[.int .i64 a, .bool b]) = .returned (.tuple #[.int .i64 a, .bool c]) := by rw [h]

/-- Where a half of a rising row ends. -/
theorem half_mem {xs : List Int} {x : Int} {n : Nat} (h1 : ∀ t y, t < n → xs[t]? = some y → y < x) (h2 : ∀ t y, n ≤ t → xs[t]? = some y → x ≤ y) (hs : xs.Pairwise (· ≤ ·)) : decide (x ∈ xs) = decide (xs[n]? = some x) := by
  rw [decide_eq_decide]
  constructor
  · intro hx
    obtain ⟨t, ht⟩ := List.mem_iff_getElem?.1 hx
    by_cases e : t < n
    · exact absurd (h1 t x e ht) (by omega)
    · by_cases e2 : t = n
      · rw [← e2]; exact ht
      · obtain ⟨htl, htx⟩ := List.getElem?_eq_some_iff.1 ht
        have hnl : n < xs.length := by omega
        have h3 := List.pairwise_iff_getElem.1 hs n t hnl htl (by omega)
        have h4 := h2 n xs[n] (Nat.le_refl _) (List.getElem?_eq_getElem hnl)
        rw [List.getElem?_eq_getElem hnl]
        congr 1
        omega
  · exact fun h => List.mem_of_getElem? h

set_option maxRecDepth 100000 in
set_option maxHeartbeats 1600000 in
theorem binary_any (v : Value) (xs : List Int) (x : Int) (w : World) (h : Is w v xs) (hs : xs.Pairwise (· ≤ ·)) (hn : xs.length ≤ 1000000) :
    Calls Tryz.prog 60 #[v, .int .i64 x] w fun e w' => ∃ n : Int, e = .returned (.tuple #[.int .i64 n, .bool (decide (x ∈ xs))]) ∧ Below w.heap.size w w' := by
  obtain ⟨ao, cap, rfl, hao, hca, _⟩ := Row.flat h
  unfold maxLen at hca
  have HI := hid h
  have HSo := hid hs
  clear h hs
  have HSrt : Hid (∀ (a b : Nat) (y z : Int), a ≤ b → xs[a]? = some y → xs[b]? = some z → y ≤ z) := fun a b y z hab ha hb => by
    rcases Nat.lt_or_eq_of_le hab with hab | rfl
    · obtain ⟨hal, rfl⟩ := List.getElem?_eq_some_iff.1 ha
      obtain ⟨hbl, rfl⟩ := List.getElem?_eq_some_iff.1 hb
      exact List.pairwise_iff_getElem.1 HSo.out a b hal hbl hab
    · rw [ha] at hb
      cases hb
      exact Int.le_refl _
  go_enter Tryz.func60, Tryz.ntmps60
  go_wp2
  go_loopw [7, 8, 9] (fun a b _ wr => ∃ lo hi : Nat, a = .int .i64 lo ∧ b = .int .i64 hi ∧ lo ≤ hi ∧ hi ≤ xs.length ∧ (∀ t y, t < lo → xs[t]? = some y → y < x) ∧ (∀ t y, hi ≤ t → xs[t]? = some y → x ≤ y) ∧ Below w.heap.size w wr) (fun a b _ _ => (intOf b).toNat - (intOf a).toNat)
  case atStart => exact ⟨0, xs.length, rfl, rfl, Nat.zero_le _, Nat.le_refl _, fun t y ht => absurd ht (Nat.not_lt_zero _), fun t y ht hy => absurd (List.getElem?_eq_some_iff.1 hy).1 (by omega), Below.refl _ _⟩
  case round =>
    obtain ⟨lo, hi, rfl, rfl, hlh, hin, h1, h2, hb⟩ := hrel
    have H1 := hid h1
    have H2 := hid h2
    have HB := hid hb
    clear h1 h2 hb
    by_cases hlt : lo < hi
    · obtain ⟨g, off, y, rfl, hy, hyx, hy1, hy2⟩ := (HI.out.kp (Kp.of_below HB.out)).at (k := (lo + hi) / 2) (by omega)
      have HY := hid hy
      clear hy
      by_cases hyx2 : y < x
      · have hd : decide (y < x) = true := by simpa using hyx2
        have HN : Hid (∀ t z, t < (lo + hi) / 2 + 1 → xs[t]? = some z → z < x) := fun t z ht hz => by
          have := HSrt.out t ((lo + hi) / 2) z y (by omega) hz HY.out
          omega
        go_wp2_with (refine (less13_any _ _ _).mono ?_; rintro e w' ⟨rfl, rfl⟩)
        refine ⟨⟨(lo + hi) / 2 + 1, hi, by rw [show ((lo : Int) + (hi : Int)) / 2 + 1 = (((lo + hi) / 2 + 1 : Nat) : Int) by omega], rfl, by omega, hin, HN.out, H2.out, HB.out⟩, ?_⟩
        simp only [intOf]
        omega
      · have hd : decide (y < x) = false := by simpa using hyx2
        have HN : Hid (∀ t z, (lo + hi) / 2 ≤ t → xs[t]? = some z → x ≤ z) := fun t z ht hz => by
          have := HSrt.out ((lo + hi) / 2) t y z ht HY.out hz
          omega
        go_wp2_with (refine (less13_any _ _ _).mono ?_; rintro e w' ⟨rfl, rfl⟩)
        refine ⟨⟨lo, (lo + hi) / 2, rfl, by rw [show ((lo : Int) + (hi : Int)) / 2 = (((lo + hi) / 2 : Nat) : Int) by omega], by omega, by omega, H1.out, HN.out, HB.out⟩, ?_⟩
        simp only [intOf]
        omega
    · obtain rfl : hi = lo := by omega
      have HF := hid (half_mem H1.out H2.out HSo.out)
      by_cases hn2 : hi < xs.length
      · obtain ⟨g, off, y, rfl, hy, hyx, hy1, hy2⟩ := (HI.out.kp (Kp.of_below HB.out)).at hn2
        have HY := hid hy
        clear hy
        by_cases he : y = x
        · have HM : Hid (decide (x ∈ xs) = true) := by show _ = _; rw [HF.out, HY.out, he]; simp
          have hd : (y == x) = true := by simpa using he
          go_wp2_with (refine (isNaN13_any _ _).mono ?_; rintro e w' ⟨rfl, rfl⟩)
          go_ret2
          exact ⟨(hi : Int), ret_ib HM.out.symm, HB.out⟩
        · have HM : Hid (decide (x ∈ xs) = false) := by show _ = _; rw [HF.out, HY.out]; simp [he]
          have hd : (y == x) = false := by simpa using he
          go_wp2_with (refine (isNaN13_any _ _).mono ?_; rintro e w' ⟨rfl, rfl⟩)
          go_ret2
          exact ⟨(hi : Int), ret_ib HM.out.symm, HB.out⟩
      · have HM : Hid (decide (x ∈ xs) = false) := by show _ = _; rw [HF.out, List.getElem?_eq_none (by omega)]; simp
        go_wp2_with fail
        go_ret2
        exact ⟨(hi : Int), ret_ib HM.out.symm, HB.out⟩

theorem defined_up (sig : List Sy) (rs : List Rl) : (definedL sig rs).Pairwise (· ≤ ·) := by
  unfold definedL
  split
  · exact (comp_rise (sortI_up _)).imp fun h => Int.le_of_lt h
  · exact List.Pairwise.nil

theorem defined_few {sig : List Sy} {rs : List Rl} (h : sysB sig rs = true) : (definedL sig rs).length ≤ 64 := by
  have h1 := (ahead_parts (sys_right h).1).2.1
  have h2 := (sys_right h).2
  unfold definedL
  rw [if_pos h, defined_eq h2]
  have h3 : ∀ n, (belowL n (rootsL rs)).length ≤ n := fun n => by
    unfold belowL
    refine Nat.le_trans (List.length_filter_le _ _) ?_
    simp
  exact Nat.le_trans (h3 _) h1

theorem compact13_any (v : Value) (xs : List Int) (w : World) (base : Nat) (ho : OwI w base v xs) (hn : xs.length ≤ 9223372036854775807) :
    Calls Tryz.prog 85 #[v] w fun e w' => ∃ v', e = .returned v' ∧ Is w' v' (Lib.compact xs) ∧ w.grownBy w' v.ownBlock ∧ ∀ j, v'.ownBlock = some j → base ≤ j := by
  rcases ho.2.2 with ⟨rfl, h0⟩ | ⟨g, cap, cur, rfl, hb, hg, hc, hm, hs, ht⟩
  · obtain rfl : xs = [] := List.eq_nil_of_length_eq_zero h0
    have hcon := Any.slices_Compact_int_empty Tryz.compLay none 0 w
    change Calls Tryz.prog 85 _ _ _ at hcon
    refine hcon.mono ?_
    rintro e w' ⟨rfl, rfl⟩
    exact ⟨_, rfl, Row.nil (by simp [maxLen]), World.grownBy.refl _ _, fun j hj => by cases hj⟩
  · rw [Nat.mul_one] at ht
    have hcon := Any.slices_Compact_int Tryz.compLay g 0 cap xs w (holds_of_blockI hg ht) hn hc
    change Calls Tryz.prog 85 _ _ _ at hcon
    refine hcon.mono ?_
    rintro e w' ⟨rfl, q, rfl⟩
    have hcl : (Lib.compact xs).length ≤ xs.length := by
      unfold Lib.compact Lib.compactUpTo
      rw [List.length_map]
      have := List.length_filter_le (Lib.keeps xs.toArray) (List.range xs.length)
      simpa using this
    have hmem : ∀ x ∈ Lib.compact xs, x ∈ xs := fun x hx => by
      unfold Lib.compact Lib.compactUpTo at hx
      obtain ⟨j, hj, rfl⟩ := List.mem_map.1 hx
      have hj2 := (List.mem_filter.1 hj).1
      rw [List.mem_range] at hj2
      rw [getElem!_pos xs.toArray j (by simpa using hj2)]
      simp
    have hgr := grownBy_sortedI (w := w) (g := g) (n := q) (os := #[]) (Lib.compact xs ++ List.replicate (xs.length - (Lib.compact xs).length) 0).toArray
    have how := ownsRow_sortedI (n := q) (os := #[]) (ts := Lib.compact xs ++ List.replicate (xs.length - (Lib.compact xs).length) 0) (ss := xs) (by rw [List.length_append, List.length_replicate]; omega) hb hg hc hm hs
    rw [Sort.grow_empty] at hgr how
    refine ⟨_, rfl, cutI (base := base) (n := xs.length) (ys := List.replicate (xs.length - (Lib.compact xs).length) 0) ⟨?_, ?_⟩, hgr, fun j hj => by cases hj; exact hb⟩
    · intro k x hk
      have hx := List.mem_of_getElem? hk
      rcases List.mem_append.1 hx with hx | hx
      · obtain ⟨j, hj⟩ := List.getElem?_of_mem (hmem x hx)
        exact ho.1 j x hj
      · obtain rfl := (List.mem_replicate.1 hx).2
        omega
    · rw [List.length_append, List.length_replicate, show (Lib.compact xs).length + (xs.length - (Lib.compact xs).length) = xs.length by omega]
      exact how

set_option maxRecDepth 100000 in
set_option maxHeartbeats 800000 in
theorem defined13_any (sv rv : Value) (sig : List Sy) (rs : List Rl) (w : World) (hs : Sg w sv sig) (hr : RU w rv rs) (hT : Tabs w) :
    Calls Tryz.prog 58 #[.agg #[sv, rv]] w fun e w' => ∃ v', e = .returned v' ∧ Is w' v' (definedL sig rs) ∧ (∀ j, v'.ownBlock = some j → w.heap.size ≤ j) ∧ Below w.heap.size w w' := by
  obtain ⟨so, sc, rfl, hso, hsc, _⟩ := Row.flat hs
  obtain ⟨ro, rc, rfl, hro, hrc, _⟩ := Row.flat hr
  unfold maxLen at hsc hrc
  have HS := hid hs
  have HR := hid hr
  have HT := hid hT
  clear hs hr hT
  obtain ⟨w0, hw0⟩ : ∃ X, X = w.alloc (.cells #[.slice so sig.length sc, .slice ro rs.length rc] 32) := ⟨_, rfl⟩
  have C0 : Hid (Below w.heap.size w w0) := by rw [hw0]; exact below_alloc _
  have HC : Hid (∀ W, Below w0.heap.size w0 W → W.cell? ⟨w.heap.size, 0, none⟩ = some (.slice so sig.length sc) ∧ W.cell? ⟨w.heap.size, 1, none⟩ = some (.slice ro rs.length rc)) := fun W hW => by
    have hk := Kp.of_below hW
    rw [hw0] at hk
    exact ⟨hk.cell _ _ (cell_new rfl), hk.cell _ _ (cell_new rfl)⟩
  obtain ⟨x0, x1⟩ := HC.out w0 (Below.refl _ _)
  go_enter Tryz.func58, Tryz.ntmps58
  go_wp2_with fail
  rw [← hw0]
  clear hw0
  refine (isRight_any _ _ sig rs w0 (HS.out.kp (Kp.of_below C0.out)) (HR.out.kp (Kp.of_below C0.out)) (HT.out.below C0.out)).mono ?_
  rintro e w1 ⟨rfl, hb1⟩
  have C1 := hid (below_step C0.out hb1)
  have D1 := hid hb1
  clear hb1 x0 x1
  cases hok : sysB sig rs with
  | false =>
    have HF : Hid (definedL sig rs = []) := by show _ = _; unfold definedL; rw [hok]; rfl
    clear hok
    go_wp2
    go_ret
    exact ⟨_, rfl, by rw [HF.out]; exact Row.nil (by simp [maxLen]), fun j hj => (by cases hj), C1.out⟩
  | true =>
    have HF : Hid (definedL sig rs = Lib.compact (sortI (rootsL rs))) := by show _ = _; unfold definedL; rw [hok]; rfl
    obtain ⟨hah, hru⟩ := sys_right hok
    have HRu := hid hru
    have hr64 := (ahead_parts hah).2.2.2
    obtain ⟨x0, x1⟩ := HC.out w1 D1.out
    clear hok hah hru
    go_wp2
    go_loopw [3, 12] (fun ov iv wr => ∃ k : Nat, k ≤ rs.length ∧ iv = .int .i64 k ∧ OwI wr w1.heap.size ov (rootsL (rs.take k)) ∧ Below w1.heap.size w1 wr) (fun _ iv _ => rs.length - (intOf iv).toNat)
    case atStart => exact ⟨0, Nat.zero_le _, rfl, ⟨fun k x hk => (by simp [rootsL] at hk), World.ownsRow_nil _ _ _ _⟩, Below.refl _ _⟩
    case round =>
      obtain ⟨k, hk, rfl, how, hbl⟩ := hrel
      have HO := hid how
      have HB := hid hbl
      have CB := hid (below_step C1.out hbl)
      clear how
      by_cases hlt : k < rs.length
      · obtain ⟨g, off, l, r, a1, c1, a2, c2, rfl, hm, hc0, hc1, hi1, hi2, hl1, hl2⟩ := (HR.out.kp (Kp.of_below CB.out)).at hlt
        have hrp := rule_parts (HRu.out _ (List.mem_of_getElem? hm))
        have hlp := row_posS (term_parts hrp.1).2
        obtain ⟨gl, ol, c, rfl, hc, hcx, hcb1, hcb2⟩ := hi1.at hlp
        rw [Nat.add_zero] at hcx
        have HN : Hid (rootsL (rs.take (k + 1)) = rootsL (rs.take k) ++ [c]) := by
          show _ = _
          unfold rootsL
          rw [take_get hm, List.map_append]
          simp only [List.map_cons, List.map_nil]
          rw [hc]
          rfl
        have hll : (rootsL (rs.take k)).length = k := by unfold rootsL; rw [List.length_map, List.length_take]; omega
        obtain ⟨W, hW⟩ : ∃ X, X = wr.alloc (.cells #[.slice (some ⟨gl, ol, none⟩) l.length c1, .slice a2 r.length c2] 38) := ⟨_, rfl⟩
        have BW : Hid (Below wr.heap.size wr W) := by rw [hW]; exact below_alloc _
        have y0 : W.cell? ⟨gl, ol, none⟩ = some (.int .i64 c) := (Kp.of_below BW.out).cell _ _ hcx
        have y1 : W.cell? ⟨wr.heap.size, 0, none⟩ = some (.slice (some ⟨gl, ol, none⟩) l.length c1) := by rw [hW]; exact cell_new rfl
        obtain ⟨v6, w6, hr6, ho6, hg6, _⟩ := join_one 36 (HO.out.later BW.out) hcb1 hcb2 (Nat.le_trans HB.out.size BW.out.size) (by rw [hll]; omega)
        have hB9 := below_step HB.out (below_step BW.out (below_alloc (.cells #[.int .i64 c] 3)))
        have HB6 : Hid (Below w1.heap.size w1 w6) := hB9.grown hg6 hB9.size (fun j hj => own_blk HO.out.2 hj)
        rw [← HN.out] at ho6
        have HO6 := hid ho6
        rw [hW, World.size_alloc] at hr6
        rw [hW] at y0
        have HR6 := hid hr6
        clear hr6 ho6 hg6 hB9 hW BW hm hi1 hi2 hrp hc hbl y1
        go_wp2_with (first
          | (at_builtin; refine wpList_append_run rfl _ _ _ rfl _ _ rfl rfl HR6.out ?_))
        go_roundw
        case rel => exact ⟨k + 1, hlt, by go_num, HO6.out, HB6.out⟩
        case measure => simp only [intOf]; omega
      · have hke : rs.take k = rs := List.take_of_length_le (by omega)
        have hO := HO.out
        rw [hke] at hO
        have hrl : (rootsL rs).length ≤ 64 := by unfold rootsL; rw [List.length_map]; exact hr64
        have HO2 := hid hO
        clear hO hke HO hbl
        go_wp2_with fail
        refine (sortI_any _ (rootsL rs) wr w1.heap.size HO2.out (by omega)).mono ?_
        rintro e w7 ⟨rfl, ho7, hg7⟩
        have HO7 := hid ho7
        have HB7 : Hid (Below w1.heap.size w1 w7) := HB.out.grown hg7 HB.out.size (fun j hj => own_blk HO2.out.2 hj)
        clear ho7 hg7
        go_wp2_with fail
        refine (compact13_any _ (sortI (rootsL rs)) w7 w1.heap.size HO7.out (by rw [sortI_len]; omega)).mono ?_
        rintro e w8 ⟨v8, rfl, hi8, hg8, hj8⟩
        have HJ8 := hid hj8
        have HI8 := hid hi8
        have HB8 : Hid (Below w1.heap.size w1 w8) := HB7.out.grown hg8 HB7.out.size (fun j hj => own_blk HO7.out.2 hj)
        clear hi8 hg8 hj8
        go_wp2
        go_ret
        exact ⟨_, rfl, by rw [HF.out]; exact HI8.out, fun j hj => Nat.le_trans C1.out.size (HJ8.out j hj), below_step C1.out HB8.out⟩

set_option maxRecDepth 100000 in
set_option maxHeartbeats 800000 in
theorem isDefined_any (c : Int) (b : Nat) (dv : Value) (D : List Int) (w : World) (hb : w.cell? ⟨b, 0, none⟩ = some dv) (hd : Is w dv D) (hs : D.Pairwise (· ≤ ·)) (hn : D.length ≤ 64) :
    Calls Tryz.prog 59 #[.int .i64 c, .pointer (some ⟨b, 0, none⟩)] w fun e w' => e = .returned (.bool (decide (c ∈ D))) ∧ Below w.heap.size w w' := by
  have HB := hid (binary_any dv D c w hd hs (by omega))
  clear hd hs
  go_enter Tryz.func59, Tryz.ntmps59
  go_wp2_with fail
  refine HB.out.mono ?_
  rintro e w1 ⟨n, rfl, hb1⟩
  have B1 := hid hb1
  clear hb1
  go_wp2
  go_ret
  exact ⟨rfl, B1.out⟩

set_option maxRecDepth 100000 in
set_option maxHeartbeats 800000 in
theorem definedBy_any (sv rv : Value) (sig : List Sy) (rs : List Rl) (w : World) (hs : Sg w sv sig) (hr : RU w rv rs) (hT : Tabs w) :
    Calls Tryz.prog 30 #[.agg #[sv, rv]] w fun e w' => ∃ (b : Nat) (dv : Value), e = .returned (.func (.func 59) #[] #[.pointer (some ⟨b, 0, none⟩)]) ∧ w'.cell? ⟨b, 0, none⟩ = some dv ∧ Is w' dv (definedL sig rs) ∧ (w.heap.size ≤ b ∧ ∀ j, dv.ownBlock = some j → w.heap.size ≤ j) ∧ Below w.heap.size w w' := by
  obtain ⟨so, sc, rfl, hso, hsc, _⟩ := Row.flat hs
  obtain ⟨ro, rc, rfl, hro, hrc, _⟩ := Row.flat hr
  obtain ⟨w0, hw0⟩ : ∃ X, X = w.alloc (.cells #[.slice so sig.length sc, .slice ro rs.length rc] 32) := ⟨_, rfl⟩
  have C0 : Below w.heap.size w w0 := by rw [hw0]; exact below_alloc _
  have HD := hid (defined13_any _ _ sig rs w0 (hs.kp (Kp.of_below C0)) (hr.kp (Kp.of_below C0)) (hT.below C0))
  have B0 := hid C0
  clear hs hr hT C0
  go_enter Tryz.func30, Tryz.ntmps30
  go_wp2_with fail
  rw [← hw0]
  clear hw0
  refine HD.out.mono ?_
  rintro e w1 ⟨dv, rfl, hi, hj, hb1⟩
  have B1 := hid (below_step B0.out hb1)
  have HI := hid hi
  have HJ : Hid (∀ j, dv.ownBlock = some j → w.heap.size ≤ j) := fun j h => Nat.le_trans B0.out.size (hj j h)
  clear hi hb1 hj
  obtain ⟨W2, hW2⟩ : ∃ X, X = w1.alloc (.cells #[dv] 36) := ⟨_, rfl⟩
  have B2 : Hid (Below w1.heap.size w1 W2) := by rw [hW2]; exact below_alloc _
  have HC : Hid (W2.cell? ⟨w1.heap.size, 0, none⟩ = some dv) := by rw [hW2]; exact cell_new rfl
  obtain ⟨da, dn, dc, rfl⟩ : ∃ a n c, dv = .slice a n c := by obtain ⟨a, c, h, _⟩ := Row.flat HI.out; exact ⟨_, _, _, h⟩
  go_wp2
  go_ret
  rw [← hW2]
  exact ⟨_, _, rfl, HC.out, HI.out.kp (Kp.of_below B2.out), ⟨B1.out.size, HJ.out⟩, below_step B1.out B2.out⟩

end Go.Proofs.YtoapgbaibpkckaaGreatDoor

/- What the binds of a match make of the pattern, plainly. -/
namespace Go.Proofs.YtoapgbaibpkckaaGreatDoor
open Go.RowKit Go.Maps

theorem first_codes2 {sig : List Sy} : ∀ (t : List Int) (m : Int) (i : Nat), firstT sig m i t = ((i : Int) + t.length, 0) → ∀ c ∈ t, codeD sig c ≠ none
  | [], _, _, _, c, hc => by simp at hc
  | a :: t, m, i, h, c, hc => by
    unfold firstT at h
    cases ha : codeD sig a with
    | none => rw [ha] at h; simp at h
    | some x =>
      rw [ha] at h
      simp only at h
      by_cases h0 : m + x = 0
      · rw [if_pos h0] at h
        have h2 := congrArg Prod.fst h
        simp only [List.length_cons] at h2
        have h3 : t.length = 0 := by omega
        obtain rfl := List.eq_nil_of_length_eq_zero h3
        rw [List.mem_singleton] at hc
        subst hc
        rw [ha]
        simp
      · rw [if_neg h0] at h
        rcases List.mem_cons.1 hc with rfl | hc
        · rw [ha]; simp
        · refine first_codes2 t (m + x) (i + 1) ?_ c hc
          rw [h]
          simp only [List.length_cons]
          congr 1
          push_cast
          omega


theorem row_var {sig : List Sy} {c : Int} (h0 : c < 0) (h1 : -1048576 ≤ c) : rowE sig [c] = 0 := by
  rw [row_first]
  unfold firstT
  rw [codeD_var h1 h0]
  simp

theorem codes_of {sig : List Sy} {p : List Int} (h : rowE sig p = 0) {c : Int} (hc : c ∈ p) : -1048576 ≤ c := by
  have h1 := row_first.1 h
  have h2 := first_codes2 p 1 0 (by rw [h1]; simp) c hc
  by_cases h3 : c < -1048576
  · exact absurd (codeD_none (.inr h3)) h2
  · omega

end Go.Proofs.YtoapgbaibpkckaaGreatDoor

/- Unification, plainly: nodes, classes, what is joined. -/
namespace Go.Proofs.YtoapgbaibpkckaaGreatDoor
open Go.RowKit Go.Maps Go.BigFrame

theorem rows_one6 {sig : List Sy} : ∀ (us vs : List (List Int)), (∀ u ∈ us, rowE sig u = 0) → (∀ v ∈ vs, rowE sig v = 0) → us.length = vs.length → us.flatten = vs.flatten → us = vs
  | [], [], _, _, _, _ => rfl
  | [], v :: vs, _, _, h, _ => by simp at h
  | u :: us, [], _, _, h, _ => by simp at h
  | u :: us, v :: vs, hu, hv, hl, he => by
    rw [List.flatten_cons, List.flatten_cons] at he
    have h1 := first_right (hu u (by simp)) us.flatten
    have h2 := first_right (hv v (by simp)) vs.flatten
    rw [he, h2] at h1
    simp only [Prod.mk.injEq, and_true] at h1
    obtain ⟨e1, e2⟩ := List.append_inj he (by omega)
    rw [e1, rows_one6 us vs (fun x hx => hu x (by simp [hx])) (fun x hx => hv x (by simp [hx])) (by simpa using hl) e2]

theorem first_flat {sig : List Sy} (ha : ArOk sig) : ∀ (us : List (List Int)) (i : Nat), us ≠ [] → (∀ u ∈ us, rowE sig u = 0) → firstT sig (us.length : Int) i us.flatten = ((i : Int) + us.flatten.length, 0)
  | [], _, h, _ => absurd rfl h
  | [u], i, _, hu => by
    have h1 := first_app ha u 1 0 (by omega) (by rw [row_first.1 (hu u (by simp))]; simp) 1 i [] (by omega)
    rw [if_pos rfl] at h1
    simpa using h1
  | u :: v :: us, i, _, hu => by
    have h1 := first_app ha u 1 0 (by omega) (by rw [row_first.1 (hu u (by simp))]; simp) (((u :: v :: us).length : Nat) : Int) i ((v :: us).flatten) (by simp only [List.length_cons]; omega)
    rw [if_neg (by simp only [List.length_cons]; omega)] at h1
    have h2 := first_flat ha (v :: us) (i + u.length) (by simp) (fun x hx => hu x (by simp at hx ⊢; exact .inr hx))
    rw [List.flatten_cons, h1, show (((u :: v :: us).length : Nat) : Int) - 1 = (((v :: us).length : Nat) : Int) by simp only [List.length_cons]; omega, h2, List.length_append]
    simp only [Prod.mk.injEq, and_true]
    omega

/-- A symbol and as many terms as it takes are a term. -/
theorem row_parts {sig : List Sy} (ha : ArOk sig) {c : Int} {us : List (List Int)} (h0 : ¬ c < 0) (hc : c.toNat < sig.length) (hn : us.length = arN sig c) (hu : ∀ u ∈ us, rowE sig u = 0) : rowE sig (c :: us.flatten) = 0 := by
  rw [row_first, firstT_cons]
  have hs : sig[c.toNat]? = some sig[c.toNat] := List.getElem?_eq_getElem hc
  have hd : codeD sig c = some ((sig[c.toNat]).2 - 1) := by
    unfold codeD
    rw [if_neg (by omega), if_neg h0, hs]
  have har := ha _ (List.mem_of_getElem? hs)
  have hn2 : (us.length : Int) = (sig[c.toNat]).2 := by
    rw [hn]
    unfold arN
    rw [hs]
    simp only
    omega
  rw [hd]
  simp only
  by_cases h1 : 1 + ((sig[c.toNat]).2 - 1) = 0
  · rw [if_pos h1]
    have : us = [] := List.eq_nil_of_length_eq_zero (by omega)
    subst this
    simp
  · rw [if_neg h1, show 1 + ((sig[c.toNat]).2 - 1) = (us.length : Int) by omega, first_flat ha us 1 (by intro h; rw [h] at hn2; simp at hn2; omega) hu]
    simp only [List.length_cons, Prod.mk.injEq, and_true]
    omega

/-- A node: a variable's number, or a symbol and the nodes of its arguments. -/
inductive Nd where
  | var (n : Int)
  | app (c : Int) (xs : List Nat)

/-- Nodes over a signature: arguments stand ahead; a variable is one node. -/
structure NdOk (sig : List Sy) (L : List Nd) : Prop where
  num : ∀ (i : Nat) (n : Int), L[i]? = some (Nd.var n) → 0 ≤ n ∧ n < 1048576
  sym : ∀ (i : Nat) (c : Int) (xs : List Nat), L[i]? = some (Nd.app c xs) → ¬ c < 0 ∧ c.toNat < sig.length ∧ xs.length = arN sig c
  ahead : ∀ (i : Nat) (c : Int) (xs : List Nat), L[i]? = some (Nd.app c xs) → ∀ j ∈ xs, j < i
  once : ∀ (i j : Nat) (n : Int), L[i]? = some (Nd.var n) → L[j]? = some (Nd.var n) → i = j

/-- What nodes become: right rows, of an application its symbol and what its arguments become. -/
def Val (sig : List Sy) (L : List Nd) (V : Nat → List Int) : Prop :=
  ∀ i, i < L.length → rowE sig (V i) = 0 ∧ ∀ c xs, L[i]? = some (Nd.app c xs) → V i = c :: (xs.map V).flatten

/-- All of a class become the same. -/
def Slv (n : Nat) (root : Nat → Nat) (V : Nat → List Int) : Prop := ∀ i, i < n → V i = V (root i)

/-- What must become the same by classes and by pairs that wait. -/
inductive Conn (root : Nat → Nat) (P : List (Nat × Nat)) : Nat → Nat → Prop
  | same {x y : Nat} (h : root x = root y) : Conn root P x y
  | wait {x y : Nat} (h : (x, y) ∈ P) : Conn root P x y
  | turn {x y : Nat} (h : Conn root P x y) : Conn root P y x
  | next {x y z : Nat} (h : Conn root P x y) (h' : Conn root P y z) : Conn root P x z

theorem Conn.mono {root root' : Nat → Nat} {P P' : List (Nat × Nat)} (h1 : ∀ x y, root x = root y → Conn root' P' x y) (h2 : ∀ x y, (x, y) ∈ P → Conn root' P' x y) {x y : Nat} (h : Conn root P x y) : Conn root' P' x y := by
  induction h with
  | same h => exact h1 _ _ h
  | wait h => exact h2 _ _ h
  | turn _ ih => exact .turn ih
  | next _ _ ih ih' => exact .next ih ih'

theorem Conn.none {root : Nat → Nat} {x y : Nat} (h : Conn root [] x y) : root x = root y := by
  induction h with
  | same h => exact h
  | wait h => cases h
  | turn _ ih => exact ih.symm
  | next _ _ ih ih' => exact ih.trans ih'

/-- Classes of nodes: each has one root; its face is an application, if one is a member, else the variable of the least number. -/
structure ClOk (L : List Nd) (root face : Nat → Nat) : Prop where
  lt : ∀ i, i < L.length → root i < L.length
  idem : ∀ i, i < L.length → root (root i) = root i
  face_lt : ∀ i, i < L.length → face (root i) < L.length
  face_in : ∀ i, i < L.length → root (face (root i)) = root i
  app : ∀ (i : Nat) (c : Int) (xs : List Nat), L[i]? = some (Nd.app c xs) → ∃ xs', L[face (root i)]? = some (Nd.app c xs')
  least : ∀ (i : Nat) (n m : Int), L[i]? = some (Nd.var n) → L[face (root i)]? = some (Nd.var m) → m ≤ n

/-- The arguments of applications in one class are, or wait to be, in one. -/
def ClWait (L : List Nd) (root face : Nat → Nat) (P : List (Nat × Nat)) : Prop :=
  ∀ (i : Nat) (c : Int) (xs xs' : List Nat), L[i]? = some (Nd.app c xs) → L[face (root i)]? = some (Nd.app c xs') → ∀ (k x x' : Nat), xs[k]? = some x → xs'[k]? = some x' → Conn root P x x'

/-- What is joined so far: whatever makes the two nodes the same makes all of a class, and all pairs that wait. -/
def Jn (sig : List Sy) (L : List Nd) (ra rb : Nat) (root : Nat → Nat) (P : List (Nat × Nat)) : Prop :=
  (∀ V, Val sig L V → V ra = V rb → Slv L.length root V ∧ ∀ p ∈ P, V p.1 = V p.2) ∧ Conn root P ra rb

theorem jn_start (sig : List Sy) (L : List Nd) (ra rb : Nat) : Jn sig L ra rb id [(ra, rb)] :=
  ⟨fun V _ h => ⟨fun i _ => rfl, fun p hp => by rw [List.mem_singleton] at hp; rw [hp]; exact h⟩, .wait (by simp)⟩

theorem cl_start {sig : List Sy} {L : List Nd} (_hL : NdOk sig L) : ClOk L id id := by
  refine ⟨fun i h => h, fun i _ => rfl, fun i h => h, fun i _ => rfl, fun i c xs h => ⟨xs, h⟩, fun i n m h1 h2 => ?_⟩
  have h3 : L[i]? = some (Nd.var m) := h2
  rw [h1] at h3
  cases h3
  exact Int.le_refl _

theorem wait_start (L : List Nd) (P : List (Nat × Nat)) : ClWait L id id P := fun i c xs xs' h1 h2 k x x' h3 h4 => by
  have h5 : L[i]? = some (Nd.app c xs') := h2
  rw [h1] at h5
  cases h5
  rw [h3] at h4
  cases h4
  exact .same rfl

/-- A pair of one class is passed by. -/
theorem jn_skip {sig : List Sy} {L : List Nd} {ra rb : Nat} {root face : Nat → Nat} {P : List (Nat × Nat)} {x y : Nat} (h : Jn sig L ra rb root (P ++ [(x, y)])) (hw : ClWait L root face (P ++ [(x, y)])) (he : root x = root y) : Jn sig L ra rb root P ∧ ClWait L root face P := by
  have key : ∀ {a b}, Conn root (P ++ [(x, y)]) a b → Conn root P a b := fun {a b} hc => hc.mono (fun _ _ h => .same h) (fun a b hab => by
    rcases List.mem_append.1 hab with hab | hab
    · exact .wait hab
    · rw [List.mem_singleton] at hab
      cases hab
      exact .same he)
  exact ⟨⟨fun V h1 h2 => ⟨(h.1 V h1 h2).1, fun p hp => (h.1 V h1 h2).2 p (List.mem_append_left _ hp)⟩, key h.2⟩, fun i c xs xs' h1 h2 k a b h3 h4 => key (hw i c xs xs' h1 h2 k a b h3 h4)⟩

/-- The classes c and d made one, whose root is c. -/
def uniR (root : Nat → Nat) (c d : Nat) (i : Nat) : Nat := if root i = d then c else root i

def uniF (face : Nat → Nat) (c f : Nat) (z : Nat) : Nat := if z = c then f else face z

/-- The face of two: an application, else the variable of the least number. -/
def faceN (L : List Nd) (a b : Nat) : Nat := match L[a]?, L[b]? with
  | some (Nd.var n), some (Nd.var m) => if n < m then a else b
  | some (Nd.var _), _ => b
  | _, _ => a

/-- The pairs of arguments of two nodes. -/
def argP (L : List Nd) (a b : Nat) : List (Nat × Nat) := match L[a]?, L[b]? with
  | some (Nd.app _ xs), some (Nd.app _ ys) => xs.zip ys
  | _, _ => []

/-- Whether two nodes clash. -/
def clash (L : List Nd) (a b : Nat) : Bool := match L[a]?, L[b]? with
  | some (Nd.app c _), some (Nd.app c' _) => !decide (c = c')
  | _, _ => false

theorem clash_none {sig : List Sy} {L : List Nd} {ra rb x y : Nat} {root face : Nat → Nat} {P : List (Nat × Nat)} (hc : ClOk L root face) (h : Jn sig L ra rb root (P ++ [(x, y)])) (hx : x < L.length) (hy : y < L.length) (hcl : clash L (face (root x)) (face (root y)) = true) : ∀ V, Val sig L V → V ra ≠ V rb := fun V hV he => by
  obtain ⟨h1, h2⟩ := h.1 V hV he
  have h3 := h2 (x, y) (by simp)
  simp only at h3
  have e1 : V (face (root x)) = V x := by rw [h1 _ (hc.face_lt x hx), hc.face_in x hx, ← h1 x hx]
  have e2 : V (face (root y)) = V y := by rw [h1 _ (hc.face_lt y hy), hc.face_in y hy, ← h1 y hy]
  unfold clash at hcl
  split at hcl
  · rename_i c xs c' ys g1 g2
    have f1 := (hV _ (hc.face_lt x hx)).2 c xs g1
    have f2 := (hV _ (hc.face_lt y hy)).2 c' ys g2
    rw [e1] at f1
    rw [e2, ← h3, f1] at f2
    simp only [List.cons.injEq] at f2
    rw [f2.1] at hcl
    simp at hcl
  · cases hcl

/-- Arguments of two applications that become the same do so. -/
theorem args_same {sig : List Sy} {L : List Nd} (hL : NdOk sig L) {V : Nat → List Int} (hV : Val sig L V) {a b : Nat} {c : Int} {xs ys : List Nat} (ha : L[a]? = some (Nd.app c xs)) (hb : L[b]? = some (Nd.app c ys)) (he : V a = V b) : xs.map V = ys.map V := by
  have la := (List.getElem?_eq_some_iff.1 ha).1
  have lb := (List.getElem?_eq_some_iff.1 hb).1
  have f1 := (hV a la).2 c xs ha
  have f2 := (hV b lb).2 c ys hb
  rw [he, f2] at f1
  simp only [List.cons.injEq, true_and] at f1
  refine (rows_one6 (sig := sig) _ _ (fun u hu => ?_) (fun u hu => ?_) ?_ f1).symm
  · obtain ⟨j, hj, rfl⟩ := List.mem_map.1 hu
    exact (hV j (Nat.lt_trans (hL.ahead b c ys hb j hj) lb)).1
  · obtain ⟨j, hj, rfl⟩ := List.mem_map.1 hu
    exact (hV j (Nat.lt_trans (hL.ahead a c xs ha j hj) la)).1
  · rw [List.length_map, List.length_map, (hL.sym a c xs ha).2.2, (hL.sym b c ys hb).2.2]

theorem uni_face (L : List Nd) (a b : Nat) : faceN L a b = a ∨ faceN L a b = b := by
  unfold faceN
  split
  · split
    · exact .inl rfl
    · exact .inr rfl
  · exact .inr rfl
  · exact .inl rfl

/-- Two classes made one, whichever root stays. -/
theorem cl_uni {L : List Nd} {root face : Nat → Nat} (hc : ClOk L root face) {c d f : Nat} (hcl : c < L.length) (hdl : d < L.length) (hrc : root c = c) (hrd : root d = d) (hne : c ≠ d) (hf : f = face c ∨ f = face d)
    (hfa : ∀ k xs, (L[face c]? = some (Nd.app k xs) ∨ L[face d]? = some (Nd.app k xs)) → ∃ xs', L[f]? = some (Nd.app k xs'))
    (hfl : ∀ m, L[f]? = some (Nd.var m) → ∃ n n', L[face c]? = some (Nd.var n) ∧ L[face d]? = some (Nd.var n') ∧ m ≤ n ∧ m ≤ n') : ClOk L (uniR root c d) (uniF face c f) := by
  have r1 : ∀ i, i < L.length → uniR root c d i = if root i = d then c else root i := fun i _ => rfl
  have hfc := hc.face_lt c hcl
  rw [hrc] at hfc
  have hfd := hc.face_lt d hdl
  rw [hrd] at hfd
  have hfic := hc.face_in c hcl
  rw [hrc] at hfic
  have hfid := hc.face_in d hdl
  rw [hrd] at hfid
  have hfl' : f < L.length := by rcases hf with rfl | rfl <;> assumption
  have hfr : uniR root c d f = c := by
    unfold uniR
    rcases hf with rfl | rfl
    · rw [hfic, if_neg hne]
    · rw [hfid, if_pos rfl]
  have two : ∀ i, i < L.length → (uniR root c d i = c ∧ (root i = c ∨ root i = d)) ∨ (uniR root c d i = root i ∧ root i ≠ c ∧ root i ≠ d) := fun i _ => by
    unfold uniR
    by_cases h1 : root i = d
    · rw [if_pos h1]
      exact .inl ⟨rfl, .inr h1⟩
    · rw [if_neg h1]
      by_cases h2 : root i = c
      · exact .inl ⟨h2, .inl h2⟩
      · exact .inr ⟨rfl, h2, h1⟩
  refine ⟨fun i hi => ?_, fun i hi => ?_, fun i hi => ?_, fun i hi => ?_, fun i k xs hi => ?_, fun i n m hi hm => ?_⟩
  · rcases two i hi with ⟨e, _⟩ | ⟨e, _⟩
    · rw [e]; exact hcl
    · rw [e]; exact hc.lt i hi
  · rcases two i hi with ⟨e, _⟩ | ⟨e, h1, h2⟩
    · rw [e]
      unfold uniR
      rw [hrc, if_neg hne]
    · rw [e]
      unfold uniR
      rw [hc.idem i hi, if_neg h2]
  · rcases two i hi with ⟨e, _⟩ | ⟨e, h1, h2⟩
    · rw [e]
      unfold uniF
      rw [if_pos rfl]
      exact hfl'
    · rw [e]
      unfold uniF
      rw [if_neg h1]
      exact hc.face_lt i hi
  · rcases two i hi with ⟨e, _⟩ | ⟨e, h1, h2⟩
    · rw [e]
      unfold uniF
      rw [if_pos rfl]
      exact hfr
    · rw [e]
      unfold uniF
      rw [if_neg h1]
      unfold uniR
      rw [hc.face_in i hi, if_neg h2]
  · have hil := (List.getElem?_eq_some_iff.1 hi).1
    obtain ⟨xs', h9⟩ := hc.app i k xs hi
    rcases two i hil with ⟨e, h | h⟩ | ⟨e, h1, h2⟩
    · rw [h] at h9
      rw [e]
      unfold uniF
      rw [if_pos rfl]
      exact hfa k xs' (.inl h9)
    · rw [h] at h9
      rw [e]
      unfold uniF
      rw [if_pos rfl]
      exact hfa k xs' (.inr h9)
    · rw [e]
      unfold uniF
      rw [if_neg h1]
      exact ⟨xs', h9⟩
  · have hil := (List.getElem?_eq_some_iff.1 hi).1
    rcases two i hil with ⟨e, h⟩ | ⟨e, h1, h2⟩
    · rw [e] at hm
      unfold uniF at hm
      rw [if_pos rfl] at hm
      obtain ⟨a, b, g1, g2, g3, g4⟩ := hfl m hm
      rcases h with h | h
      · have := hc.least i n a hi (by rw [h]; exact g1)
        omega
      · have := hc.least i n b hi (by rw [h]; exact g2)
        omega
    · rw [e] at hm
      unfold uniF at hm
      rw [if_neg h1] at hm
      exact hc.least i n m hi hm

end Go.Proofs.YtoapgbaibpkckaaGreatDoor

/- Unification, plainly: two classes made one; what classes become. -/
namespace Go.Proofs.YtoapgbaibpkckaaGreatDoor
open Go.RowKit Go.Maps Go.BigFrame

theorem faceN_app {L : List Nd} {a b : Nat} {k : Int} {xs : List Nat} (hc : clash L a b = false) (hal : a < L.length) (h : L[a]? = some (Nd.app k xs) ∨ L[b]? = some (Nd.app k xs)) : ∃ xs', L[faceN L a b]? = some (Nd.app k xs') := by
  unfold faceN
  unfold clash at hc
  rcases h with h | h
  · rw [h]
    exact ⟨xs, h⟩
  · rw [h] at hc ⊢
    cases ha : L[a]? with
    | none => rw [List.getElem?_eq_none_iff] at ha; omega
    | some x =>
      cases x with
      | var n => exact ⟨xs, h⟩
      | app c ys =>
        rw [ha] at hc
        simp at hc
        subst hc
        exact ⟨ys, ha⟩

theorem faceN_var {L : List Nd} {a b : Nat} (ha : a < L.length) (hb : b < L.length) {m : Int} (h : L[faceN L a b]? = some (Nd.var m)) : ∃ n n', L[a]? = some (Nd.var n) ∧ L[b]? = some (Nd.var n') ∧ m ≤ n ∧ m ≤ n' := by
  have ea : L[a]? = some L[a] := List.getElem?_eq_getElem ha
  have eb : L[b]? = some L[b] := List.getElem?_eq_getElem hb
  unfold faceN at h
  rw [ea, eb] at h
  cases hxa : L[a] with
  | var n =>
    cases hxb : L[b] with
    | var n' =>
      rw [hxa, hxb] at h
      simp only at h
      split at h
      · rw [ea, hxa] at h
        cases h
        exact ⟨m, n', by rw [ea, hxa], by rw [eb, hxb], Int.le_refl _, by omega⟩
      · rw [eb, hxb] at h
        cases h
        exact ⟨n, m, by rw [ea, hxa], by rw [eb, hxb], by omega, Int.le_refl _⟩
    | app c ys =>
      rw [hxa, hxb] at h
      simp only at h
      rw [eb, hxb] at h
      cases h
  | app c ys =>
    rw [hxa] at h
    simp only at h
    rw [ea, hxa] at h
    cases h

/-- A pair of two classes that do not clash: they become one. -/
theorem uni_step {sig : List Sy} {L : List Nd} (hL : NdOk sig L) {root face : Nat → Nat} (hc : ClOk L root face) {P P' : List (Nat × Nat)} {ra rb x y c d f : Nat}
    (hj : Jn sig L ra rb root (P ++ [(x, y)])) (hw : ClWait L root face (P ++ [(x, y)])) (hx : x < L.length) (hy : y < L.length)
    (hxy : (root x = c ∧ root y = d) ∨ (root x = d ∧ root y = c)) (hne : c ≠ d) (hcl : clash L (face (root x)) (face (root y)) = false)
    (hf : f = face c ∨ f = face d) (hfa : ∀ k xs, (L[face c]? = some (Nd.app k xs) ∨ L[face d]? = some (Nd.app k xs)) → ∃ xs', L[f]? = some (Nd.app k xs'))
    (hfl : ∀ m, L[f]? = some (Nd.var m) → ∃ n n', L[face c]? = some (Nd.var n) ∧ L[face d]? = some (Nd.var n') ∧ m ≤ n ∧ m ≤ n')
    (hP : P' = P ++ argP L (face (root x)) (face (root y))) :
    ClOk L (uniR root c d) (uniF face c f) ∧ ClWait L (uniR root c d) (uniF face c f) P' ∧ Jn sig L ra rb (uniR root c d) P' := by
  have hcx : root (root x) = root x := hc.idem x hx
  have hcy : root (root y) = root y := hc.idem y hy
  have hlx := hc.lt x hx
  have hly := hc.lt y hy
  have hrc : root c = c := by rcases hxy with ⟨rfl, rfl⟩ | ⟨rfl, rfl⟩ <;> assumption
  have hrd : root d = d := by rcases hxy with ⟨rfl, rfl⟩ | ⟨rfl, rfl⟩ <;> assumption
  have hcl2 : c < L.length := by rcases hxy with ⟨rfl, rfl⟩ | ⟨rfl, rfl⟩ <;> assumption
  have hdl2 : d < L.length := by rcases hxy with ⟨rfl, rfl⟩ | ⟨rfl, rfl⟩ <;> assumption
  have hok := cl_uni hc hcl2 hdl2 hrc hrd hne hf hfa hfl
  have hsame : ∀ a b, root a = root b → uniR root c d a = uniR root c d b := fun a b h => by unfold uniR; rw [h]
  have hux : uniR root c d x = uniR root c d y := by
    unfold uniR
    rcases hxy with ⟨h1, h2⟩ | ⟨h1, h2⟩
    · rw [h1, h2, if_neg hne, if_pos rfl]
    · rw [h1, h2, if_neg hne, if_pos rfl]
  have hmono : ∀ {a b}, Conn root (P ++ [(x, y)]) a b → Conn (uniR root c d) P' a b := fun {a b} h => h.mono (fun _ _ h => .same (hsame _ _ h)) (fun a b hab => by
    rcases List.mem_append.1 hab with hab | hab
    · exact .wait (by rw [hP]; exact List.mem_append_left _ hab)
    · rw [List.mem_singleton] at hab
      cases hab
      exact .same hux)
  have hargs : ∀ (k : Int) (xs ys : List Nat), L[face (root x)]? = some (Nd.app k xs) → L[face (root y)]? = some (Nd.app k ys) → ∀ (i a b : Nat), xs[i]? = some a → ys[i]? = some b → Conn (uniR root c d) P' a b := fun k xs ys h1 h2 i a b h3 h4 => by
    refine .wait ?_
    rw [hP]
    refine List.mem_append_right _ ?_
    unfold argP
    rw [h1, h2]
    simp only
    exact List.mem_of_getElem? (i := i) (by rw [List.getElem?_zip_eq_some]; exact ⟨h3, h4⟩)
  have hargs2 : ∀ (k : Int) (xs ys : List Nat), L[face c]? = some (Nd.app k xs) → L[face d]? = some (Nd.app k ys) → ∀ (i a b : Nat), xs[i]? = some a → ys[i]? = some b → Conn (uniR root c d) P' a b := fun k xs ys h1 h2 i a b h3 h4 => by
    rcases hxy with ⟨e1, e2⟩ | ⟨e1, e2⟩
    · exact hargs k xs ys (by rw [e1]; exact h1) (by rw [e2]; exact h2) i a b h3 h4
    · exact .turn (hargs k ys xs (by rw [e1]; exact h2) (by rw [e2]; exact h1) i b a h4 h3)
  refine ⟨hok, fun i k xs xs' h1 h2 n a b h3 h4 => ?_, fun V hV he => ?_, hmono hj.2⟩
  · have hil := (List.getElem?_eq_some_iff.1 h1).1
    obtain ⟨zs, hz⟩ := hc.app i k xs h1
    have hzl : n < zs.length := by
      have e1 := (hL.sym i k xs h1).2.2
      have e2 := (hL.sym _ k zs hz).2.2
      have e3 := (List.getElem?_eq_some_iff.1 h3).1
      omega
    have hzn : zs[n]? = some zs[n] := List.getElem?_eq_getElem hzl
    refine .next (hmono (hw i k xs zs h1 hz n a _ h3 hzn)) ?_
    by_cases hm : root i = c ∨ root i = d
    · have hu : uniR root c d i = c := by
        unfold uniR
        rcases hm with hm | hm
        · rw [hm, if_neg hne]
        · rw [hm, if_pos rfl]
      rw [hu] at h2
      unfold uniF at h2
      rw [if_pos rfl] at h2
      have hself : ∀ (a b : Nat), zs[n]? = some a → zs[n]? = some b → Conn (uniR root c d) P' a b := fun a b e1 e2 => by rw [e1] at e2; cases e2; exact .same rfl
      rcases hm with hm | hm
      · rw [hm] at hz
        rcases hf with rfl | rfl
        · rw [hz] at h2
          cases h2
          exact hself _ _ hzn h4
        · exact hargs2 k zs xs' hz h2 n _ _ hzn h4
      · rw [hm] at hz
        rcases hf with rfl | rfl
        · exact .turn (hargs2 k xs' zs h2 hz n _ _ h4 hzn)
        · rw [hz] at h2
          cases h2
          exact hself _ _ hzn h4
    · have hu : uniR root c d i = root i := by
        unfold uniR
        rw [if_neg (fun h => hm (.inr h))]
      rw [hu] at h2
      unfold uniF at h2
      rw [if_neg (fun h => hm (.inl h)), hz] at h2
      cases h2
      rw [hzn] at h4
      cases h4
      exact .same rfl
  · obtain ⟨s1, s2⟩ := hj.1 V hV he
    have hvxy := s2 (x, y) (by simp)
    simp only at hvxy
    have hvcd : V c = V d := by
      rcases hxy with ⟨e1, e2⟩ | ⟨e1, e2⟩
      · rw [← e1, ← e2, ← s1 x hx, ← s1 y hy]; exact hvxy
      · rw [← e1, ← e2, ← s1 x hx, ← s1 y hy]; exact hvxy.symm
    refine ⟨fun i hi => ?_, fun p hp => ?_⟩
    · unfold uniR
      by_cases h1 : root i = d
      · rw [if_pos h1, hvcd, ← h1]
        exact s1 i hi
      · rw [if_neg h1]
        exact s1 i hi
    · rw [hP] at hp
      rcases List.mem_append.1 hp with hp | hp
      · exact s2 p (List.mem_append_left _ hp)
      · have e1 : V (face (root x)) = V x := by rw [s1 _ (hc.face_lt x hx), hc.face_in x hx, ← s1 x hx]
        have e2 : V (face (root y)) = V y := by rw [s1 _ (hc.face_lt y hy), hc.face_in y hy, ← s1 y hy]
        unfold argP at hp
        unfold clash at hcl
        split at hp
        · rename_i k xs k' ys g1 g2
          rw [g1, g2] at hcl
          simp at hcl
          subst hcl
          have hsm := args_same hL hV g1 g2 (by rw [e1, e2, hvxy])
          obtain ⟨i, hi⟩ := List.getElem?_of_mem hp
          rw [List.getElem?_zip_eq_some] at hi
          have q1 : (xs.map V)[i]? = some (V p.1) := by rw [List.getElem?_map, hi.1]; rfl
          have q2 : (ys.map V)[i]? = some (V p.2) := by rw [List.getElem?_map, hi.2]; rfl
          rw [hsm, q2] at q1
          exact (Option.some.inj q1).symm
        · cases hp

/-- What a class becomes. -/
inductive TmC (L : List Nd) (root face : Nat → Nat) : Nat → List Int → Prop
  | var {c : Nat} {n : Int} (h : L[face c]? = some (Nd.var n)) : TmC L root face c [-1 - n]
  | app {c : Nat} {s : Int} {xs : List Nat} {ts : List (List Int)} (h : L[face c]? = some (Nd.app s xs)) (hl : ts.length = xs.length) (ht : ∀ (k x : Nat) (t : List Int), xs[k]? = some x → ts[k]? = some t → TmC L root face (root x) t) : TmC L root face c (s :: ts.flatten)

theorem tmC_one {L : List Nd} {root face : Nat → Nat} {c : Nat} {t : List Int} (h : TmC L root face c t) : ∀ t', TmC L root face c t' → t = t' := by
  induction h with
  | var h =>
    intro t' h'
    cases h' with
    | var h' => rw [h] at h'; cases h'; rfl
    | app h' _ _ => rw [h] at h'; cases h'
  | app h hl ht ih =>
    intro t' h'
    cases h' with
    | var h' => rw [h] at h'; cases h'
    | app h' hl' ht' =>
      rw [h] at h'
      cases h'
      rename_i xs ts ts'
      have e : ts = ts' := by
        apply List.ext_getElem (by omega)
        intro k h1 h2
        have hx : xs[k]? = some xs[k] := List.getElem?_eq_getElem (by omega)
        exact ih k _ _ hx (List.getElem?_eq_getElem h1) _ (ht' k _ _ hx (List.getElem?_eq_getElem h2))
      rw [e]

theorem tmC_right {sig : List Sy} (ha : ArOk sig) {L : List Nd} (hL : NdOk sig L) {root face : Nat → Nat} {c : Nat} {t : List Int} (h : TmC L root face c t) : rowE sig t = 0 := by
  induction h with
  | var h =>
    have := hL.num _ _ h
    exact row_var (by omega) (by omega)
  | app h hl ht ih =>
    obtain ⟨h0, h1, h2⟩ := hL.sym _ _ _ h
    refine row_parts ha h0 h1 (by omega) (fun u hu => ?_)
    obtain ⟨k, hk⟩ := List.getElem?_of_mem hu
    have hkl := (List.getElem?_eq_some_iff.1 hk).1
    exact ih k _ u (List.getElem?_eq_getElem (by omega)) hk

/-- A node below another one. -/
inductive Bel (L : List Nd) : Nat → Nat → Prop
  | here (r : Nat) : Bel L r r
  | arg {r x : Nat} {s : Int} {xs : List Nat} {y : Nat} (h : Bel L r x) (hx : L[x]? = some (Nd.app s xs)) (hy : y ∈ xs) : Bel L r y

/-- All that is joined: applications of one class have one symbol, and their arguments are in one class. -/
def Closed (L : List Nd) (root face : Nat → Nat) : Prop := ∀ (i : Nat) (c : Int) (xs xs' : List Nat), L[i]? = some (Nd.app c xs) → L[face (root i)]? = some (Nd.app c xs') → ∀ (k x x' : Nat), xs[k]? = some x → xs'[k]? = some x' → root x = root x'

theorem closed_of {L : List Nd} {root face : Nat → Nat} (h : ClWait L root face []) : Closed L root face := fun i c xs xs' h1 h2 k x x' h3 h4 => (h i c xs xs' h1 h2 k x x' h3 h4).none

/-- Whatever stands below a node whose class becomes a term is in such a class. -/
theorem bel_tm {sig : List Sy} {L : List Nd} (hL : NdOk sig L) {root face : Nat → Nat} (hc : ClOk L root face) (hcl : Closed L root face) {r x : Nat} (h : Bel L r x) (ht : ∃ t, TmC L root face (root r) t) : ∃ t, TmC L root face (root x) t := by
  induction h with
  | here => exact ht
  | arg h hx hy ih =>
    rename_i x s xs y
    obtain ⟨t, ht⟩ := ih
    obtain ⟨xs', hx'⟩ := hc.app x s xs hx
    cases ht with
    | var h9 => rw [hx'] at h9; cases h9
    | app h9 hl ht9 =>
      rename_i s' zs ts
      rw [hx'] at h9
      cases h9
      obtain ⟨k, hk⟩ := List.getElem?_of_mem hy
      have e1 := (hL.sym x s xs hx).2.2
      have e2 := (hL.sym _ s xs' hx').2.2
      have hkl := (List.getElem?_eq_some_iff.1 hk).1
      have hk' : xs'[k]? = some xs'[k] := List.getElem?_eq_getElem (by omega)
      have h7 := hcl x s xs xs' hx hx' k y _ hk hk'
      rw [h7]
      exact ⟨_, ht9 k _ _ hk' (List.getElem?_eq_getElem (by omega))⟩

/-- What nodes become by their classes. -/
noncomputable def vC (L : List Nd) (root face : Nat → Nat) (i : Nat) : List Int := @dite _ (∃ t, TmC L root face (root i) t) (Classical.propDecidable _) (fun h => Classical.choose h) (fun _ => [])

theorem vC_eq {L : List Nd} {root face : Nat → Nat} {i : Nat} {t : List Int} (h : TmC L root face (root i) t) : vC L root face i = t := by
  have h9 : ∃ t, TmC L root face (root i) t := ⟨t, h⟩
  unfold vC
  rw [dif_pos h9]
  exact tmC_one (Classical.choose_spec h9) t h

theorem map_of {α β : Type} {f : α → β} {xs : List α} {ys : List β} (hl : ys.length = xs.length) (h : ∀ (k : Nat) (x : α) (y : β), xs[k]? = some x → ys[k]? = some y → f x = y) : xs.map f = ys := by
  apply List.ext_getElem (by rw [List.length_map]; omega)
  intro k h1 h2
  rw [List.length_map] at h1
  rw [List.getElem_map]
  exact h k _ _ (List.getElem?_eq_getElem h1) (List.getElem?_eq_getElem h2)

/-- That is a valuation. -/
theorem vC_val {sig : List Sy} (ha : ArOk sig) {L : List Nd} (hL : NdOk sig L) {root face : Nat → Nat} (hc : ClOk L root face) (hcl : Closed L root face) (hT : ∀ i, i < L.length → ∃ t, TmC L root face (root i) t) : Val sig L (vC L root face) := fun i hi => by
  obtain ⟨t, ht⟩ := hT i hi
  rw [vC_eq ht]
  refine ⟨tmC_right ha hL ht, fun s xs hx => ?_⟩
  obtain ⟨xs', hx'⟩ := hc.app i s xs hx
  cases ht with
  | var h9 => rw [hx'] at h9; cases h9
  | app h9 hl ht9 =>
    rename_i s' zs ts
    rw [hx'] at h9
    cases h9
    congr 1
    have e1 := (hL.sym i s xs hx).2.2
    have e2 := (hL.sym _ s xs' hx').2.2
    have e : xs.map (vC L root face) = ts := map_of (by omega) (fun k x y h1 h2 => by
      have hkl := (List.getElem?_eq_some_iff.1 h1).1
      have hk' : xs'[k]? = some xs'[k] := List.getElem?_eq_getElem (by omega)
      have h7 := hcl i s xs xs' hx hx' k x _ h1 hk'
      exact vC_eq (by rw [h7]; exact ht9 k _ _ hk' h2))
    rw [e]

theorem vC_slv {L : List Nd} {root face : Nat → Nat} (hc : ClOk L root face) : Slv L.length root (vC L root face) := fun i hi => by
  unfold vC
  rw [hc.idem i hi]

/-- What a valuation makes of variables. -/
noncomputable def gV (L : List Nd) (V : Nat → List Int) (n : Int) : Option (List Int) := @dite _ (∃ i, L[i]? = some (Nd.var n)) (Classical.propDecidable _) (fun h => some (V (Classical.choose h))) (fun _ => none)

theorem gV_eq {sig : List Sy} {L : List Nd} (hL : NdOk sig L) {V : Nat → List Int} {i : Nat} {n : Int} (h : L[i]? = some (Nd.var n)) : gV L V n = some (V i) := by
  have h9 : ∃ i, L[i]? = some (Nd.var n) := ⟨i, h⟩
  unfold gV
  rw [dif_pos h9, hL.once _ i n (Classical.choose_spec h9) h]

theorem laid_flat (g : Int → Option (List Int)) : ∀ ts : List (List Int), laidL g ts.flatten = (ts.map (laidL g)).flatten
  | [] => rfl
  | t :: ts => by rw [List.flatten_cons, laidL_app, laid_flat g ts, List.map_cons, List.flatten_cons]

/-- Whatever solves is made of what the classes become. -/
theorem slv_laid {sig : List Sy} {L : List Nd} (hL : NdOk sig L) {root face : Nat → Nat} (hc : ClOk L root face) {V : Nat → List Int} (hV : Val sig L V) (hs : Slv L.length root V) {c : Nat} {t : List Int} (h : TmC L root face c t) (hcl : c < L.length) (hrc : root c = c) : V c = laidL (gV L V) t := by
  have key : ∀ c, c < L.length → root c = c → V c = V (face c) := fun c h1 h2 => by
    have h3 := hc.face_lt c h1
    have h4 := hc.face_in c h1
    rw [h2] at h3 h4
    rw [hs (face c) h3, h4]
  induction h with
  | var h =>
    rw [key _ hcl hrc, laidL_cons]
    unfold piece
    have := hL.num _ _ h
    rw [if_pos (by omega), show -1 - (-1 - _) = _ from Int.sub_sub_self _ _, gV_eq hL h]
    simp [laidL]
  | app h hl ht ih =>
    rename_i c s xs ts
    obtain ⟨h0, h1, h2⟩ := hL.sym _ _ _ h
    have hfl := (List.getElem?_eq_some_iff.1 h).1
    rw [key _ hcl hrc, (hV _ hfl).2 s xs h, laidL_cons, laid_flat]
    unfold piece
    rw [if_neg h0]
    have e : xs.map V = ts.map (laidL (gV L V)) := map_of (by rw [List.length_map]; omega) (fun k x y h3 h4 => by
      rw [List.getElem?_map] at h4
      cases h5 : ts[k]? with
      | none => rw [h5] at h4; cases h4
      | some u =>
        rw [h5] at h4
        cases h4
        have hxl := Nat.lt_trans (hL.ahead _ _ _ h x (List.mem_of_getElem? h3)) hfl
        rw [hs x hxl]
        exact ih k x u h3 h5 (hc.lt x hxl) (hc.idem x hxl))
    rw [e]
    rfl

/-- A class and one of its face's arguments. -/
def Pt (L : List Nd) (root face : Nat → Nat) (c d : Nat) : Prop := ∃ (s : Int) (xs : List Nat) (x : Nat), L[face c]? = some (Nd.app s xs) ∧ x ∈ xs ∧ root x = d

/-- What solves makes parts shorter. -/
theorem pt_short {sig : List Sy} {L : List Nd} (hL : NdOk sig L) {root face : Nat → Nat} (hc : ClOk L root face) {V : Nat → List Int} (hV : Val sig L V) (hs : Slv L.length root V) {c d : Nat} (h : Pt L root face c d) (hcl : c < L.length) (hrc : root c = c) : (V d).length < (V c).length ∧ d < L.length ∧ root d = d := by
  obtain ⟨s, xs, x, h1, h2, rfl⟩ := h
  have hfl := (List.getElem?_eq_some_iff.1 h1).1
  have hxl := Nat.lt_trans (hL.ahead _ _ _ h1 x h2) hfl
  have h3 := hc.face_lt c hcl
  have h4 := hc.face_in c hcl
  rw [hrc] at h3 h4
  have e1 : V c = V (face c) := by rw [hs (face c) h3, h4]
  rw [e1, (hV _ hfl).2 s xs h1, ← hs x hxl, List.length_cons]
  have h5 : (V x).length ≤ ((xs.map V).flatten).length := by
    obtain ⟨p, q, rfl⟩ := List.append_of_mem h2
    rw [List.map_append, List.map_cons, List.flatten_append, List.flatten_cons, List.length_append, List.length_append]
    omega
  exact ⟨by omega, hc.lt x hxl, hc.idem x hxl⟩

/-- Reached by parts. -/
inductive Rch (L : List Nd) (root face : Nat → Nat) : Nat → Nat → Prop
  | one {c d : Nat} (h : Pt L root face c d) : Rch L root face c d
  | more {c d e : Nat} (h : Rch L root face c d) (h' : Pt L root face d e) : Rch L root face c e

theorem rch_short {sig : List Sy} {L : List Nd} (hL : NdOk sig L) {root face : Nat → Nat} (hc : ClOk L root face) {V : Nat → List Int} (hV : Val sig L V) (hs : Slv L.length root V) {c d : Nat} (h : Rch L root face c d) (hcl : c < L.length) (hrc : root c = c) : (V d).length < (V c).length ∧ d < L.length ∧ root d = d := by
  induction h with
  | one h => exact pt_short hL hc hV hs h hcl hrc
  | more h h' ih =>
    obtain ⟨i1, i2, i3⟩ := ih
    obtain ⟨j1, j2, j3⟩ := pt_short hL hc hV hs h' i2 i3
    exact ⟨by omega, j2, j3⟩

/-- A class that is reached from itself: nothing solves. -/
theorem circle_none {sig : List Sy} {L : List Nd} (hL : NdOk sig L) {root face : Nat → Nat} (hc : ClOk L root face) {c : Nat} (h : Rch L root face c c) (hcl : c < L.length) (hrc : root c = c) {V : Nat → List Int} (hV : Val sig L V) : ¬ Slv L.length root V := fun hs => by
  have := (rch_short hL hc hV hs h hcl hrc).1
  omega

end Go.Proofs.YtoapgbaibpkckaaGreatDoor
