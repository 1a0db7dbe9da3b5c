/- Texts of the proof, one behind the other. -/
import Derived.Test.YtoapgbaibpkckaaGreatDoorOwn11
import Derived.Test.YtoapgbaibpkckaaGreatDoorOwn3
import Derived.Test.YtoapgbaibpkckaaGreatDoorOwn4
import Derived.Test.YtoapgbaibpkckaaGreatDoorOwn7
/- definedBy of package pairs walked; slices.BinarySearch at numbers. -/
namespace Go.Proofs.YtoapgbaibpkckaaGreatDoor
open Go.RowKit Go.Maps Go.BigFrame

set_option maxRecDepth 100000 in
theorem isNaN13_any (x : Int) (w : World) : Calls Tryz.prog 87 #[.int .i64 x] w fun e w' => e = .returned (.bool false) ∧ w' = w := by
  go_enter Tryz.func87, Tryz.ntmps87
  go_wp2
  go_ret
  exact ⟨by simp, rfl⟩

set_option maxRecDepth 100000 in
theorem cmpNaN13_any (x : Int) (w : World) : Calls Tryz.prog 114 #[.int .i64 x] w fun e w' => e = .returned (.bool false) ∧ w' = w := by
  go_enter Tryz.func114, Tryz.ntmps114
  go_wp2
  go_ret
  exact ⟨by simp, rfl⟩

set_option maxRecDepth 100000 in
theorem less13_any (x y : Int) (w : World) : Calls Tryz.prog 86 #[.int .i64 x, .int .i64 y] w fun e w' => e = .returned (.bool (decide (x < y))) ∧ w' = w := by
  go_enter Tryz.func86, Tryz.ntmps86
  go_wp2_with (refine (cmpNaN13_any _ _).mono ?_; rintro e w' ⟨rfl, rfl⟩)
  go_ret
  exact ⟨rfl, rfl⟩

theorem ret_ib {a : Int} {b c : Bool} (h : b = c) : Ending.returned (.tuple #[.int .i64 a, .bool b]) = .returned (.tuple #[.int .i64 a, .bool c]) := by rw [h]

/-- Where a half of a rising row ends. -/
theorem half_mem {xs : List Int} {x : Int} {n : Nat} (h1 : ∀ t y, t < n → xs[t]? = some y → y < x) (h2 : ∀ t y, n ≤ t → xs[t]? = some y → x ≤ y) (hs : xs.Pairwise (· ≤ ·)) : decide (x ∈ xs) = decide (xs[n]? = some x) := by
  rw [decide_eq_decide]
  constructor
  · intro hx
    obtain ⟨t, ht⟩ := List.mem_iff_getElem?.1 hx
    by_cases e : t < n
    · exact absurd (h1 t x e ht) (by omega)
    · by_cases e2 : t = n
      · rw [← e2]; exact ht
      · obtain ⟨htl, htx⟩ := List.getElem?_eq_some_iff.1 ht
        have hnl : n < xs.length := by omega
        have h3 := List.pairwise_iff_getElem.1 hs n t hnl htl (by omega)
        have h4 := h2 n xs[n] (Nat.le_refl _) (List.getElem?_eq_getElem hnl)
        rw [List.getElem?_eq_getElem hnl]
        congr 1
        omega
  · exact fun h => List.mem_of_getElem? h

set_option maxRecDepth 100000 in
set_option maxHeartbeats 1600000 in
theorem binary_any (v : Value) (xs : List Int) (x : Int) (w : World) (h : Is w v xs) (hs : xs.Pairwise (· ≤ ·)) (hn : xs.length ≤ 1000000) :
    Calls Tryz.prog 60 #[v, .int .i64 x] w fun e w' => ∃ n : Int, e = .returned (.tuple #[.int .i64 n, .bool (decide (x ∈ xs))]) ∧ Below w.heap.size w w' := by
  obtain ⟨ao, cap, rfl, hao, hca, _⟩ := Row.flat h
  unfold maxLen at hca
  have HI := hid h
  have HSo := hid hs
  clear h hs
  have HSrt : Hid (∀ (a b : Nat) (y z : Int), a ≤ b → xs[a]? = some y → xs[b]? = some z → y ≤ z) := fun a b y z hab ha hb => by
    rcases Nat.lt_or_eq_of_le hab with hab | rfl
    · obtain ⟨hal, rfl⟩ := List.getElem?_eq_some_iff.1 ha
      obtain ⟨hbl, rfl⟩ := List.getElem?_eq_some_iff.1 hb
      exact List.pairwise_iff_getElem.1 HSo.out a b hal hbl hab
    · rw [ha] at hb
      cases hb
      exact Int.le_refl _
  go_enter Tryz.func60, Tryz.ntmps60
  go_wp2
  go_loopw [7, 8, 9] (fun a b _ wr => ∃ lo hi : Nat, a = .int .i64 lo ∧ b = .int .i64 hi ∧ lo ≤ hi ∧ hi ≤ xs.length ∧ (∀ t y, t < lo → xs[t]? = some y → y < x) ∧ (∀ t y, hi ≤ t → xs[t]? = some y → x ≤ y) ∧ Below w.heap.size w wr) (fun a b _ _ => (intOf b).toNat - (intOf a).toNat)
  case atStart => exact ⟨0, xs.length, rfl, rfl, Nat.zero_le _, Nat.le_refl _, fun t y ht => absurd ht (Nat.not_lt_zero _), fun t y ht hy => absurd (List.getElem?_eq_some_iff.1 hy).1 (by omega), Below.refl _ _⟩
  case round =>
    obtain ⟨lo, hi, rfl, rfl, hlh, hin, h1, h2, hb⟩ := hrel
    have H1 := hid h1
    have H2 := hid h2
    have HB := hid hb
    clear h1 h2 hb
    by_cases hlt : lo < hi
    · obtain ⟨g, off, y, rfl, hy, hyx, hy1, hy2⟩ := (HI.out.kp (Kp.of_below HB.out)).at (k := (lo + hi) / 2) (by omega)
      have HY := hid hy
      clear hy
      by_cases hyx2 : y < x
      · have hd : decide (y < x) = true := by simpa using hyx2
        have HN : Hid (∀ t z, t < (lo + hi) / 2 + 1 → xs[t]? = some z → z < x) := fun t z ht hz => by
          have := HSrt.out t ((lo + hi) / 2) z y (by omega) hz HY.out
          omega
        go_wp2_with (refine (less13_any _ _ _).mono ?_; rintro e w' ⟨rfl, rfl⟩)
        refine ⟨⟨(lo + hi) / 2 + 1, hi, by rw [show ((lo : Int) + (hi : Int)) / 2 + 1 = (((lo + hi) / 2 + 1 : Nat) : Int) by omega], rfl, by omega, hin, HN.out, H2.out, HB.out⟩, ?_⟩
        simp only [intOf]
        omega
      · have hd : decide (y < x) = false := by simpa using hyx2
        have HN : Hid (∀ t z, (lo + hi) / 2 ≤ t → xs[t]? = some z → x ≤ z) := fun t z ht hz => by
          have := HSrt.out ((lo + hi) / 2) t y z ht HY.out hz
          omega
        go_wp2_with (refine (less13_any _ _ _).mono ?_; rintro e w' ⟨rfl, rfl⟩)
        refine ⟨⟨lo, (lo + hi) / 2, rfl, by rw [show ((lo : Int) + (hi : Int)) / 2 = (((lo + hi) / 2 : Nat) : Int) by omega], by omega, by omega, H1.out, HN.out, HB.out⟩, ?_⟩
        simp only [intOf]
        omega
    · obtain rfl : hi = lo := by omega
      have HF := hid (half_mem H1.out H2.out HSo.out)
      by_cases hn2 : hi < xs.length
      · obtain ⟨g, off, y, rfl, hy, hyx, hy1, hy2⟩ := (HI.out.kp (Kp.of_below HB.out)).at hn2
        have HY := hid hy
        clear hy
        by_cases he : y = x
        · have HM : Hid (decide (x ∈ xs) = true) := by show _ = _; rw [HF.out, HY.out, he]; simp
          have hd : (y == x) = true := by simpa using he
          go_wp2_with (refine (isNaN13_any _ _).mono ?_; rintro e w' ⟨rfl, rfl⟩)
          go_ret2
          exact ⟨(hi : Int), ret_ib HM.out.symm, HB.out⟩
        · have HM : Hid (decide (x ∈ xs) = false) := by show _ = _; rw [HF.out, HY.out]; simp [he]
          have hd : (y == x) = false := by simpa using he
          go_wp2_with (refine (isNaN13_any _ _).mono ?_; rintro e w' ⟨rfl, rfl⟩)
          go_ret2
          exact ⟨(hi : Int), ret_ib HM.out.symm, HB.out⟩
      · have HM : Hid (decide (x ∈ xs) = false) := by show _ = _; rw [HF.out, List.getElem?_eq_none (by omega)]; simp
        go_wp2_with fail
        go_ret2
        exact ⟨(hi : Int), ret_ib HM.out.symm, HB.out⟩

theorem defined_up (sig : List Sy) (rs : List Rl) : (definedL sig rs).Pairwise (· ≤ ·) := by
  unfold definedL
  split
  · exact (comp_rise (sortI_up _)).imp fun h => Int.le_of_lt h
  · exact List.Pairwise.nil

theorem defined_few {sig : List Sy} {rs : List Rl} (h : sysB sig rs = true) : (definedL sig rs).length ≤ 64 := by
  have h1 := (ahead_parts (sys_right h).1).2.1
  have h2 := (sys_right h).2
  unfold definedL
  rw [if_pos h, defined_eq h2]
  have h3 : ∀ n, (belowL n (rootsL rs)).length ≤ n := fun n => by
    unfold belowL
    refine Nat.le_trans (List.length_filter_le _ _) ?_
    simp
  exact Nat.le_trans (h3 _) h1

theorem compact13_any (v : Value) (xs : List Int) (w : World) (base : Nat) (ho : OwI w base v xs) (hn : xs.length ≤ 9223372036854775807) :
    Calls Tryz.prog 85 #[v] w fun e w' => ∃ v', e = .returned v' ∧ Is w' v' (Lib.compact xs) ∧ w.grownBy w' v.ownBlock ∧ ∀ j, v'.ownBlock = some j → base ≤ j := by
  rcases ho.2.2 with ⟨rfl, h0⟩ | ⟨g, cap, cur, rfl, hb, hg, hc, hm, hs, ht⟩
  · obtain rfl : xs = [] := List.eq_nil_of_length_eq_zero h0
    have hcon := Any.slices_Compact_int_empty Tryz.compLay none 0 w
    change Calls Tryz.prog 85 _ _ _ at hcon
    refine hcon.mono ?_
    rintro e w' ⟨rfl, rfl⟩
    exact ⟨_, rfl, Row.nil (by simp [maxLen]), World.grownBy.refl _ _, fun j hj => by cases hj⟩
  · rw [Nat.mul_one] at ht
    have hcon := Any.slices_Compact_int Tryz.compLay g 0 cap xs w (holds_of_blockI hg ht) hn hc
    change Calls Tryz.prog 85 _ _ _ at hcon
    refine hcon.mono ?_
    rintro e w' ⟨rfl, q, rfl⟩
    have hcl : (Lib.compact xs).length ≤ xs.length := by
      unfold Lib.compact Lib.compactUpTo
      rw [List.length_map]
      have := List.length_filter_le (Lib.keeps xs.toArray) (List.range xs.length)
      simpa using this
    have hmem : ∀ x ∈ Lib.compact xs, x ∈ xs := fun x hx => by
      unfold Lib.compact Lib.compactUpTo at hx
      obtain ⟨j, hj, rfl⟩ := List.mem_map.1 hx
      have hj2 := (List.mem_filter.1 hj).1
      rw [List.mem_range] at hj2
      rw [getElem!_pos xs.toArray j (by simpa using hj2)]
      simp
    have hgr := grownBy_sortedI (w := w) (g := g) (n := q) (os := #[]) (Lib.compact xs ++ List.replicate (xs.length - (Lib.compact xs).length) 0).toArray
    have how := ownsRow_sortedI (n := q) (os := #[]) (ts := Lib.compact xs ++ List.replicate (xs.length - (Lib.compact xs).length) 0) (ss := xs) (by rw [List.length_append, List.length_replicate]; omega) hb hg hc hm hs
    rw [Sort.grow_empty] at hgr how
    refine ⟨_, rfl, cutI (base := base) (n := xs.length) (ys := List.replicate (xs.length - (Lib.compact xs).length) 0) ⟨?_, ?_⟩, hgr, fun j hj => by cases hj; exact hb⟩
    · intro k x hk
      have hx := List.mem_of_getElem? hk
      rcases List.mem_append.1 hx with hx | hx
      · obtain ⟨j, hj⟩ := List.getElem?_of_mem (hmem x hx)
        exact ho.1 j x hj
      · obtain rfl := (List.mem_replicate.1 hx).2
        omega
    · rw [List.length_append, List.length_replicate, show (Lib.compact xs).length + (xs.length - (Lib.compact xs).length) = xs.length by omega]
      exact how

set_option maxRecDepth 100000 in
set_option maxHeartbeats 800000 in
theorem defined13_any (sv rv : Value) (sig : List Sy) (rs : List Rl) (w : World) (hs : Sg w sv sig) (hr : RU w rv rs) (hT : Tabs w) :
    Calls Tryz.prog 58 #[.agg #[sv, rv]] w fun e w' => ∃ v', e = .returned v' ∧ Is w' v' (definedL sig rs) ∧ (∀ j, v'.ownBlock = some j → w.heap.size ≤ j) ∧ Below w.heap.size w w' := by
  obtain ⟨so, sc, rfl, hso, hsc, _⟩ := Row.flat hs
  obtain ⟨ro, rc, rfl, hro, hrc, _⟩ := Row.flat hr
  unfold maxLen at hsc hrc
  have HS := hid hs
  have HR := hid hr
  have HT := hid hT
  clear hs hr hT
  obtain ⟨w0, hw0⟩ : ∃ X, X = w.alloc (.cells #[.slice so sig.length sc, .slice ro rs.length rc] 32) := ⟨_, rfl⟩
  have C0 : Hid (Below w.heap.size w w0) := by rw [hw0]; exact below_alloc _
  have HC : Hid (∀ W, Below w0.heap.size w0 W → W.cell? ⟨w.heap.size, 0, none⟩ = some (.slice so sig.length sc) ∧ W.cell? ⟨w.heap.size, 1, none⟩ = some (.slice ro rs.length rc)) := fun W hW => by
    have hk := Kp.of_below hW
    rw [hw0] at hk
    exact ⟨hk.cell _ _ (cell_new rfl), hk.cell _ _ (cell_new rfl)⟩
  obtain ⟨x0, x1⟩ := HC.out w0 (Below.refl _ _)
  go_enter Tryz.func58, Tryz.ntmps58
  go_wp2_with fail
  rw [← hw0]
  clear hw0
  refine (isRight_any _ _ sig rs w0 (HS.out.kp (Kp.of_below C0.out)) (HR.out.kp (Kp.of_below C0.out)) (HT.out.below C0.out)).mono ?_
  rintro e w1 ⟨rfl, hb1⟩
  have C1 := hid (below_step C0.out hb1)
  have D1 := hid hb1
  clear hb1 x0 x1
  cases hok : sysB sig rs with
  | false =>
    have HF : Hid (definedL sig rs = []) := by show _ = _; unfold definedL; rw [hok]; rfl
    clear hok
    go_wp2
    go_ret
    exact ⟨_, rfl, by rw [HF.out]; exact Row.nil (by simp [maxLen]), fun j hj => (by cases hj), C1.out⟩
  | true =>
    have HF : Hid (definedL sig rs = Lib.compact (sortI (rootsL rs))) := by show _ = _; unfold definedL; rw [hok]; rfl
    obtain ⟨hah, hru⟩ := sys_right hok
    have HRu := hid hru
    have hr64 := (ahead_parts hah).2.2.2
    obtain ⟨x0, x1⟩ := HC.out w1 D1.out
    clear hok hah hru
    go_wp2
    go_loopw [3, 12] (fun ov iv wr => ∃ k : Nat, k ≤ rs.length ∧ iv = .int .i64 k ∧ OwI wr w1.heap.size ov (rootsL (rs.take k)) ∧ Below w1.heap.size w1 wr) (fun _ iv _ => rs.length - (intOf iv).toNat)
    case atStart => exact ⟨0, Nat.zero_le _, rfl, ⟨fun k x hk => (by simp [rootsL] at hk), World.ownsRow_nil _ _ _ _⟩, Below.refl _ _⟩
    case round =>
      obtain ⟨k, hk, rfl, how, hbl⟩ := hrel
      have HO := hid how
      have HB := hid hbl
      have CB := hid (below_step C1.out hbl)
      clear how
      by_cases hlt : k < rs.length
      · obtain ⟨g, off, l, r, a1, c1, a2, c2, rfl, hm, hc0, hc1, hi1, hi2, hl1, hl2⟩ := (HR.out.kp (Kp.of_below CB.out)).at hlt
        have hrp := rule_parts (HRu.out _ (List.mem_of_getElem? hm))
        have hlp := row_posS (term_parts hrp.1).2
        obtain ⟨gl, ol, c, rfl, hc, hcx, hcb1, hcb2⟩ := hi1.at hlp
        rw [Nat.add_zero] at hcx
        have HN : Hid (rootsL (rs.take (k + 1)) = rootsL (rs.take k) ++ [c]) := by
          show _ = _
          unfold rootsL
          rw [take_get hm, List.map_append]
          simp only [List.map_cons, List.map_nil]
          rw [hc]
          rfl
        have hll : (rootsL (rs.take k)).length = k := by unfold rootsL; rw [List.length_map, List.length_take]; omega
        obtain ⟨W, hW⟩ : ∃ X, X = wr.alloc (.cells #[.slice (some ⟨gl, ol, none⟩) l.length c1, .slice a2 r.length c2] 38) := ⟨_, rfl⟩
        have BW : Hid (Below wr.heap.size wr W) := by rw [hW]; exact below_alloc _
        have y0 : W.cell? ⟨gl, ol, none⟩ = some (.int .i64 c) := (Kp.of_below BW.out).cell _ _ hcx
        have y1 : W.cell? ⟨wr.heap.size, 0, none⟩ = some (.slice (some ⟨gl, ol, none⟩) l.length c1) := by rw [hW]; exact cell_new rfl
        obtain ⟨v6, w6, hr6, ho6, hg6, _⟩ := join_one 36 (HO.out.later BW.out) hcb1 hcb2 (Nat.le_trans HB.out.size BW.out.size) (by rw [hll]; omega)
        have hB9 := below_step HB.out (below_step BW.out (below_alloc (.cells #[.int .i64 c] 3)))
        have HB6 : Hid (Below w1.heap.size w1 w6) := hB9.grown hg6 hB9.size (fun j hj => own_blk HO.out.2 hj)
        rw [← HN.out] at ho6
        have HO6 := hid ho6
        rw [hW, World.size_alloc] at hr6
        rw [hW] at y0
        have HR6 := hid hr6
        clear hr6 ho6 hg6 hB9 hW BW hm hi1 hi2 hrp hc hbl y1
        go_wp2_with (first
          | (at_builtin; refine wpList_append_run rfl _ _ _ rfl _ _ rfl rfl HR6.out ?_))
        go_roundw
        case rel => exact ⟨k + 1, hlt, by go_num, HO6.out, HB6.out⟩
        case measure => simp only [intOf]; omega
      · have hke : rs.take k = rs := List.take_of_length_le (by omega)
        have hO := HO.out
        rw [hke] at hO
        have hrl : (rootsL rs).length ≤ 64 := by unfold rootsL; rw [List.length_map]; exact hr64
        have HO2 := hid hO
        clear hO hke HO hbl
        go_wp2_with fail
        refine (sortI_any _ (rootsL rs) wr w1.heap.size HO2.out (by omega)).mono ?_
        rintro e w7 ⟨rfl, ho7, hg7⟩
        have HO7 := hid ho7
        have HB7 : Hid (Below w1.heap.size w1 w7) := HB.out.grown hg7 HB.out.size (fun j hj => own_blk HO2.out.2 hj)
        clear ho7 hg7
        go_wp2_with fail
        refine (compact13_any _ (sortI (rootsL rs)) w7 w1.heap.size HO7.out (by rw [sortI_len]; omega)).mono ?_
        rintro e w8 ⟨v8, rfl, hi8, hg8, hj8⟩
        have HJ8 := hid hj8
        have HI8 := hid hi8
        have HB8 : Hid (Below w1.heap.size w1 w8) := HB7.out.grown hg8 HB7.out.size (fun j hj => own_blk HO7.out.2 hj)
        clear hi8 hg8 hj8
        go_wp2
        go_ret
        exact ⟨_, rfl, by rw [HF.out]; exact HI8.out, fun j hj => Nat.le_trans C1.out.size (HJ8.out j hj), below_step C1.out HB8.out⟩

set_option maxRecDepth 100000 in
set_option maxHeartbeats 800000 in
theorem isDefined_any (c : Int) (b : Nat) (dv : Value) (D : List Int) (w : World) (hb : w.cell? ⟨b, 0, none⟩ = some dv) (hd : Is w dv D) (hs : D.Pairwise (· ≤ ·)) (hn : D.length ≤ 64) :
    Calls Tryz.prog 59 #[.int .i64 c, .pointer (some ⟨b, 0, none⟩)] w fun e w' => e = .returned (.bool (decide (c ∈ D))) ∧ Below w.heap.size w w' := by
  have HB := hid (binary_any dv D c w hd hs (by omega))
  clear hd hs
  go_enter Tryz.func59, Tryz.ntmps59
  go_wp2_with fail
  refine HB.out.mono ?_
  rintro e w1 ⟨n, rfl, hb1⟩
  have B1 := hid hb1
  clear hb1
  go_wp2
  go_ret
  exact ⟨rfl, B1.out⟩

set_option maxRecDepth 100000 in
set_option maxHeartbeats 800000 in
theorem definedBy_any (sv rv : Value) (sig : List Sy) (rs : List Rl) (w : World) (hs : Sg w sv sig) (hr : RU w rv rs) (hT : Tabs w) :
    Calls Tryz.prog 30 #[.agg #[sv, rv]] w fun e w' => ∃ (b : Nat) (dv : Value), e = .returned (.func (.func 59) #[] #[.pointer (some ⟨b, 0, none⟩)]) ∧ w'.cell? ⟨b, 0, none⟩ = some dv ∧ Is w' dv (definedL sig rs) ∧ (w.heap.size ≤ b ∧ ∀ j, dv.ownBlock = some j → w.heap.size ≤ j) ∧ Below w.heap.size w w' := by
  obtain ⟨so, sc, rfl, hso, hsc, _⟩ := Row.flat hs
  obtain ⟨ro, rc, rfl, hro, hrc, _⟩ := Row.flat hr
  obtain ⟨w0, hw0⟩ : ∃ X, X = w.alloc (.cells #[.slice so sig.length sc, .slice ro rs.length rc] 32) := ⟨_, rfl⟩
  have C0 : Below w.heap.size w w0 := by rw [hw0]; exact below_alloc _
  have HD := hid (defined13_any _ _ sig rs w0 (hs.kp (Kp.of_below C0)) (hr.kp (Kp.of_below C0)) (hT.below C0))
  have B0 := hid C0
  clear hs hr hT C0
  go_enter Tryz.func30, Tryz.ntmps30
  go_wp2_with fail
  rw [← hw0]
  clear hw0
  refine HD.out.mono ?_
  rintro e w1 ⟨dv, rfl, hi, hj, hb1⟩
  have B1 := hid (below_step B0.out hb1)
  have HI := hid hi
  have HJ : Hid (∀ j, dv.ownBlock = some j → w.heap.size ≤ j) := fun j h => Nat.le_trans B0.out.size (hj j h)
  clear hi hb1 hj
  obtain ⟨W2, hW2⟩ : ∃ X, X = w1.alloc (.cells #[dv] 36) := ⟨_, rfl⟩
  have B2 : Hid (Below w1.heap.size w1 W2) := by rw [hW2]; exact below_alloc _
  have HC : Hid (W2.cell? ⟨w1.heap.size, 0, none⟩ = some dv) := by rw [hW2]; exact cell_new rfl
  obtain ⟨da, dn, dc, rfl⟩ : ∃ a n c, dv = .slice a n c := by obtain ⟨a, c, h, _⟩ := Row.flat HI.out; exact ⟨_, _, _, h⟩
  go_wp2
  go_ret
  rw [← hW2]
  exact ⟨_, _, rfl, HC.out, HI.out.kp (Kp.of_below B2.out), ⟨B1.out.size, HJ.out⟩, below_step B1.out B2.out⟩

end Go.Proofs.YtoapgbaibpkckaaGreatDoor

/- What the document's Shift answers. -/
namespace Go.Proofs.YtoapgbaibpkckaaGreatDoor
open Go.RowKit Go.Maps Go.BigFrame

set_option maxRecDepth 100000 in
set_option maxHeartbeats 1600000 in
theorem refShift_any (v : Value) (t : List Int) (d : Int) (w : World) (h : Is w v t) (hb : t.length * 8 ≤ 140737488351232) (hd1 : -9223372036854775808 ≤ d) (hd2 : d ≤ 9223372036854775807) :
    Calls Tryz.prog 44 #[v, .int .i64 d] w fun e w' => ∃ v', e = .returned (.tuple #[v', .int .i64 (shiftE d t)]) ∧ OwI w' w.heap.size v' (shiftL d t) ∧ Below w.heap.size w w' := by
  obtain ⟨ao, cap, rfl, hao, hca, q0⟩ := Row.flat h
  unfold maxLen at hca
  have HT := hid h
  clear h q0
  go_enter Tryz.func44, Tryz.ntmps44
  go_wp2
  go_loopw [6, 7] (fun x i wr => ∃ k : Nat, k ≤ t.length ∧ i = .int .i64 k ∧ (∀ c ∈ t.take k, c < 0 → isVarB (-1 - c + d) = true) ∧ OwI wr w.heap.size x ((t.take k).map fun c => if c < 0 then c - d else c) ∧ Below w.heap.size w wr) (fun _ i _ => t.length - (intOf i).toNat)
  case atStart => exact ⟨0, Nat.zero_le _, rfl, fun c hc => (by simp at hc), ⟨fun k x hk => (by simp at hk), empty_row _ (Nat.le_refl _)⟩, below_alloc _⟩
  case round =>
    obtain ⟨k, hk, rfl, hpre, how, hbl⟩ := hrel
    have hol : ((t.take k).map fun c => if c < 0 then c - d else c).length = k := by rw [List.length_map, List.length_take]; omega
    obtain ⟨bo, bc, hv, hbc1, hbc2⟩ := how.shape
    rw [hol] at hv hbc1
    subst hv
    unfold maxLen at hbc2
    have HPre := hid hpre
    have HOw := hid how
    have HB := hid hbl
    have HOl := hid hol
    clear hpre how hol
    by_cases hlt : k < t.length
    · obtain ⟨ga, off, c, rfl, hx1, hx2, hx3, hx4⟩ := (HT.out.kp (Kp.of_below hbl)).at hlt
      have HG := hid hx1
      have HMem : Hid (c ∈ t) := List.mem_of_getElem? hx1
      have HPre2' : (c < 0 → isVarB (-1 - c + d) = true) → ∀ x ∈ t.take (k + 1), x < 0 → isVarB (-1 - x + d) = true := fun hcv x hx h0 => by
        rw [List.take_add_one, HG.out, List.mem_append] at hx
        rcases hx with hx | hx
        · exact HPre.out x hx h0
        · simp at hx
          subst hx
          exact hcv h0
      have HPq := hid HPre2'
      clear hx1 hbl HPre2'
      obtain ⟨n, hn⟩ : ∃ n, n = -1 - c := ⟨_, rfl⟩
      have hwn : IntKind.i64.wrap (-1 - c) = n := by rw [hn]; exact IntWalk.i64_in _ ⟨by omega, by omega⟩
      by_cases hc0 : 0 ≤ c
      · have HPre2 := hid (HPq.out (fun h => absurd h (by omega)))
        have hcn : ¬ c < 0 := by omega
        obtain ⟨v4, w4, hr4, ho4, hg4⟩ := join_ints 36 (u := .slice (some ⟨wr.heap.size, 0, none⟩) 1 1) (es := [c]) (HOw.out.later (below_alloc (.cells #[.int .i64 (c)] 3))) (is_new wr [c] _ (by intro x hx; simp at hx; omega) (by simp)) (b1 HB.out).size (by rw [HOl.out]; simp; omega)
        have HR4 := hid hr4
        have HO4 : Hid (OwI w4 w.heap.size v4 ((t.take (k + 1)).map fun c => if c < 0 then c - d else c)) := by
          have h9 := ho4
          rw [List.take_add_one, HG.out, List.map_append]
          simp only [Option.toList, List.map_cons, List.map_nil, if_neg hcn]
          exact h9
        have HB4 : Hid (Below w.heap.size w w4) := (b1 HB.out).grown hg4 (b1 HB.out).size (fun j hj => own_blk HOw.out.2 hj)
        clear hr4 ho4 hg4
        go_wp2_with (first
          | (at_builtin; refine wpList_append_run rfl _ _ _ rfl _ _ rfl rfl HR4.out ?_))
        go_roundw
        case rel => exact ⟨k + 1, by omega, by go_num, HPre2.out, HO4.out, HB4.out⟩
        case measure => simp [intOf]; omega
      · have hcn : c < 0 := by omega
        by_cases hv : isVarB (-1 - c + d) = true
        · have HPre2 := hid (HPq.out (fun _ => hv))
          have hv2 := isVarB_iff.1 hv
          obtain ⟨m, hm⟩ : ∃ m, m = n + d := ⟨_, rfl⟩
          obtain ⟨y, hy⟩ : ∃ y, y = c - d := ⟨_, rfl⟩
          have hwm : IntKind.i64.wrap (n + d) = m := by rw [hm]; exact IntWalk.i64_in _ ⟨by omega, by omega⟩
          have hwy : IntKind.i64.wrap (-1 - m) = y := by rw [IntWalk.i64_in _ ⟨by omega, by omega⟩]; omega
          have hdm : ¬ 1048576 ≤ d := by omega
          have hm0 : ¬ m < 0 := by omega
          have hm1 : ¬ 1048576 ≤ m := by omega
          by_cases hd0 : 0 ≤ d
          · have hwd : IntKind.i64.wrap (1048576 - d) = 1048576 - d := IntWalk.i64_in _ ⟨by omega, by omega⟩
            have hnd : ¬ 1048576 - d ≤ n := by omega
            obtain ⟨v4, w4, hr4, ho4, hg4⟩ := join_ints 36 (u := .slice (some ⟨wr.heap.size, 0, none⟩) 1 1) (es := [y]) (HOw.out.later (below_alloc (.cells #[.int .i64 (y)] 3))) (is_new wr [y] _ (by intro x hx; simp at hx; omega) (by simp)) (b1 HB.out).size (by rw [HOl.out]; simp; omega)
            have HR4 := hid hr4
            have HO4 : Hid (OwI w4 w.heap.size v4 ((t.take (k + 1)).map fun c => if c < 0 then c - d else c)) := by
              have h9 := ho4
              rw [List.take_add_one, HG.out, List.map_append]
              simp only [Option.toList, List.map_cons, List.map_nil, if_pos hcn, ← hy]
              exact h9
            have HB4 : Hid (Below w.heap.size w w4) := (b1 HB.out).grown hg4 (b1 HB.out).size (fun j hj => own_blk HOw.out.2 hj)
            clear hr4 ho4 hg4 hn hm hy hv hv2
            go_wp2_with (first
              | (at_builtin; refine wpList_append_run rfl _ _ _ rfl _ _ rfl rfl HR4.out ?_))
            go_roundw
            case rel => exact ⟨k + 1, by omega, by go_num, HPre2.out, HO4.out, HB4.out⟩
            case measure => simp [intOf]; omega
          · have hnd : ¬ 0 ≤ d := hd0
            obtain ⟨v4, w4, hr4, ho4, hg4⟩ := join_ints 36 (u := .slice (some ⟨wr.heap.size, 0, none⟩) 1 1) (es := [y]) (HOw.out.later (below_alloc (.cells #[.int .i64 (y)] 3))) (is_new wr [y] _ (by intro x hx; simp at hx; omega) (by simp)) (b1 HB.out).size (by rw [HOl.out]; simp; omega)
            have HR4 := hid hr4
            have HO4 : Hid (OwI w4 w.heap.size v4 ((t.take (k + 1)).map fun c => if c < 0 then c - d else c)) := by
              have h9 := ho4
              rw [List.take_add_one, HG.out, List.map_append]
              simp only [Option.toList, List.map_cons, List.map_nil, if_pos hcn, ← hy]
              exact h9
            have HB4 : Hid (Below w.heap.size w w4) := (b1 HB.out).grown hg4 (b1 HB.out).size (fun j hj => own_blk HOw.out.2 hj)
            clear hr4 ho4 hg4 hn hm hy hv hv2
            go_wp2_with (first
              | (at_builtin; refine wpList_append_run rfl _ _ _ rfl _ _ rfl rfl HR4.out ?_))
            go_roundw
            case rel => exact ⟨k + 1, by omega, by go_num, HPre2.out, HO4.out, HB4.out⟩
            case measure => simp [intOf]; omega
        · have HE : Hid (shiftE d t = 40 ∧ shiftL d t = []) := by
            have hno : ¬ okShift d t = true := fun h => hv (by
              have := List.all_eq_true.1 h c HMem.out
              simpa [hcn] using this)
            exact ⟨by unfold shiftE; rw [if_neg hno], by unfold shiftL; rw [if_neg hno]⟩
          have hv2 : ¬ (0 ≤ -1 - c + d ∧ -1 - c + d < 1048576) := fun h => hv (isVarB_iff.2 h)
          obtain ⟨m, hm⟩ : ∃ m, m = n + d := ⟨_, rfl⟩
          by_cases hd9 : 1048576 ≤ d
          · go_wp2
            go_ret2
            exact ⟨_, ret2i HE.out.1.symm, by rw [HE.out.2]; exact nilI _ _, HB.out⟩
          · by_cases hd0 : 0 ≤ d
            · have hwd : IntKind.i64.wrap (1048576 - d) = 1048576 - d := IntWalk.i64_in _ ⟨by omega, by omega⟩
              have hnd : 1048576 - d ≤ n := by omega
              go_wp2
              go_ret2
              exact ⟨_, ret2i HE.out.1.symm, by rw [HE.out.2]; exact nilI _ _, HB.out⟩
            · have hwm : IntKind.i64.wrap (n + d) = m := by rw [hm]; exact IntWalk.i64_in _ ⟨by omega, by omega⟩
              by_cases hm0 : m < 0
              · go_wp2
                go_ret2
                exact ⟨_, ret2i HE.out.1.symm, by rw [HE.out.2]; exact nilI _ _, HB.out⟩
              · have hm1 : 1048576 ≤ m := by omega
                go_wp2
                go_ret2
                exact ⟨_, ret2i HE.out.1.symm, by rw [HE.out.2]; exact nilI _ _, HB.out⟩
    · have hke : k = t.length := by omega
      subst hke
      have HE : Hid (shiftE d t = 0 ∧ shiftL d t = t.map fun c => if c < 0 then c - d else c) := by
        have h9 := HPre.out
        rw [List.take_length] at h9
        have hok : okShift d t = true := List.all_eq_true.2 fun c hc => by
          by_cases h0 : c < 0
          · simp [h9 c hc h0]
          · simp [h0]
        exact ⟨by unfold shiftE; rw [if_pos hok], by unfold shiftL; rw [if_pos hok]⟩
      rw [List.take_length] at HOw
      go_wp2
      go_ret2
      exact ⟨_, ret2i HE.out.1.symm, by rw [HE.out.2]; exact HOw.out, HB.out⟩

end Go.Proofs.YtoapgbaibpkckaaGreatDoor


/- Rows whose variables are moved, plainly. -/
namespace Go.Proofs.YtoapgbaibpkckaaGreatDoor
open Go.RowKit Go.Maps Go.BigFrame

def movL (d : Int) (t : List Int) : List Int := t.map fun c => if c < 0 then c - d else c

theorem mov_ok {d : Int} {t : List Int} (h : okShift d t = true) : shiftE d t = 0 ∧ shiftL d t = movL d t := by
  unfold shiftE shiftL
  rw [if_pos h, if_pos h]
  exact ⟨rfl, rfl⟩

theorem mov_code {sig : List Sy} {d c : Int} (h : c < 0 → isVarB (-1 - c + d) = true) (hc : codeD sig c ≠ none) : codeD sig (if c < 0 then c - d else c) = codeD sig c := by
  by_cases h0 : c < 0
  · rw [if_pos h0]
    have h1 := isVarB_iff.1 (h h0)
    have h2 : ¬ c < -1048576 := fun h2 => hc (codeD_none (.inr h2))
    unfold codeD
    rw [if_neg (by omega), if_pos (by omega), if_neg (by omega), if_pos (by omega)]
  · rw [if_neg h0]

theorem mov_first {sig : List Sy} {d : Int} : ∀ (t : List Int) (m : Int) (i : Nat), okShift d t = true → (∀ c ∈ t, codeD sig c ≠ none) → firstT sig m i (movL d t) = firstT sig m i t
  | [], _, _, _, _ => rfl
  | c :: t, m, i, ho, hc => by
    have h1 : (c < 0 → isVarB (-1 - c + d) = true) ∧ okShift d t = true := by
      unfold okShift at ho ⊢
      rw [List.all_cons, Bool.and_eq_true] at ho
      refine ⟨fun h0 => ?_, ho.2⟩
      have := ho.1
      simpa [h0] using this
    have e : movL d (c :: t) = (if c < 0 then c - d else c) :: movL d t := rfl
    rw [e]
    unfold firstT
    rw [mov_code h1.1 (hc c (by simp))]
    cases codeD sig c with
    | none => rfl
    | some x =>
      simp only
      rw [mov_first t _ _ h1.2 (fun y hy => hc y (by simp [hy]))]

theorem first_codes {sig : List Sy} : ∀ (t : List Int) (m : Int) (i : Nat), firstT sig m i t = ((i : Int) + t.length, 0) → ∀ c ∈ t, codeD sig c ≠ none
  | [], _, _, _, c, hc => by simp at hc
  | a :: t, m, i, h, c, hc => by
    unfold firstT at h
    cases ha : codeD sig a with
    | none => rw [ha] at h; simp at h
    | some x =>
      rw [ha] at h
      simp only at h
      by_cases h0 : m + x = 0
      · rw [if_pos h0] at h
        have h2 := congrArg Prod.fst h
        simp only [List.length_cons] at h2
        have h3 : t.length = 0 := by omega
        obtain rfl := List.eq_nil_of_length_eq_zero h3
        rw [List.mem_singleton] at hc
        subst hc
        rw [ha]
        simp
      · rw [if_neg h0] at h
        rcases List.mem_cons.1 hc with rfl | hc
        · rw [ha]; simp
        · refine first_codes t (m + x) (i + 1) ?_ c hc
          rw [h]
          simp only [List.length_cons]
          congr 1
          push_cast
          omega

theorem mov_row {sig : List Sy} {d : Int} {t : List Int} (ho : okShift d t = true) (h : rowE sig t = 0) : rowE sig (movL d t) = 0 := by
  have h1 := first_right h []
  rw [List.append_nil] at h1
  have h2 := mov_first (sig := sig) t 1 0 ho (first_codes t 1 0 (by rw [h1]; simp))
  unfold rowE at h ⊢
  rw [h2]
  have h3 : (movL d t).length = t.length := by unfold movL; simp
  rw [h3]
  exact h

end Go.Proofs.YtoapgbaibpkckaaGreatDoor

/- CAPs and the sides of pairs, plainly. -/
namespace Go.Proofs.YtoapgbaibpkckaaGreatDoor
open Go.RowKit

/-- How many codes the first term of a row has. -/
def fstN (sig : List Sy) (u : List Int) : Nat := (firstT sig 1 0 u).1.toNat

/-- A row of terms, with a variable of its own for each variable and each term whose root is defined. -/
def capG (sig : List Sy) (D : List Int) : Nat → Nat → List Int → List Int × Nat
  | 0, f, _ => ([], f)
  | _ + 1, f, [] => ([], f)
  | N + 1, f, c :: r => if 0 ≤ c ∧ c ∉ D then (c :: (capG sig D N f r).1, (capG sig D N f r).2) else ((-1 - (f : Int)) :: (capG sig D N (f + 1) (r.drop (fstN sig (c :: r) - 1))).1, (capG sig D N (f + 1) (r.drop (fstN sig (c :: r) - 1))).2)

def capL (sig : List Sy) (D : List Int) : List Int → List Int
  | [] => []
  | c :: r => c :: (capG sig D r.length 0 r).1

/-- A term at the head of a row of m. -/
theorem head_term {sig : List Sy} (ha : ArOk sig) {u : List Int} {m : Int} {i : Nat} (hm : 1 ≤ m) (h : firstT sig m i u = ((i : Int) + u.length, 0)) :
    ∃ k : Nat, 1 ≤ k ∧ k ≤ u.length ∧ fstN sig u = k ∧ rowE sig (u.take k) = 0 ∧ (m = 1 → k = u.length) ∧ (1 < m → firstT sig (m - 1) (i + k) (u.drop k) = ((i : Int) + u.length, 0)) := by
  obtain ⟨k, k1, k2, k3, k4, k5⟩ := first_part ha u 1 m 0 i (by omega) hm h
  obtain ⟨k', e1, _, _, e4⟩ := first_take u 1 0 _ k3
  have hkk : k' = k := by omega
  subst hkk
  refine ⟨k', k1, k2, ?_, ?_, fun h => k4 h, k5⟩
  · unfold fstN
    rw [k3]
    simp
  · rw [row_first, e4, List.length_take]
    congr 1
    omega

theorem capG_nil (sig : List Sy) (D : List Int) (N f : Nat) : capG sig D N f [] = ([], f) := by cases N <;> rfl

/-- The CAP of a row of terms is one. -/
theorem capG_rows {sig : List Sy} (ha : ArOk sig) (D : List Int) : ∀ (N f : Nat) (r : List Int) (m : Int) (i j : Nat), r.length ≤ N → f + r.length ≤ 1048576 → 1 ≤ m → firstT sig m i r = ((i : Int) + r.length, 0) →
    firstT sig m j (capG sig D N f r).1 = ((j : Int) + (capG sig D N f r).1.length, 0) ∧ (capG sig D N f r).1.length ≤ r.length ∧ (capG sig D N f r).2 ≤ f + r.length ∧ f ≤ (capG sig D N f r).2 ∧ ∀ c ∈ (capG sig D N f r).1, c < 0 → (f : Int) ≤ -1 - c ∧ -1 - c < ((capG sig D N f r).2 : Int)
  | _, _, [], m, i, j, _, _, hm, h => by simp [firstT] at h
  | 0, _, c :: r, m, i, j, hN, _, _, _ => by simp at hN
  | N + 1, f, c :: r, m, i, j, hN, hf, hm, h => by
    rw [List.length_cons] at hN hf
    by_cases hc : 0 ≤ c ∧ c ∉ D
    · have e : capG sig D (N + 1) f (c :: r) = (c :: (capG sig D N f r).1, (capG sig D N f r).2) := by rw [capG, if_pos hc]
      rw [e]
      rw [firstT_cons] at h ⊢
      cases hcd : codeD sig c with
      | none => rw [hcd] at h; simp at h
      | some x =>
        rw [hcd] at h
        simp only at h ⊢
        have hx := codeD_ge ha hcd
        by_cases h0 : m + x = 0
        · rw [if_pos h0] at h ⊢
          have h2 := congrArg Prod.fst h
          simp only [List.length_cons] at h2
          obtain rfl : r = [] := List.eq_nil_of_length_eq_zero (by omega)
          rw [capG_nil]
          refine ⟨by simp, by simp, by simp, by simp, fun d hd h9 => ?_⟩
          rw [List.mem_singleton] at hd
          omega
        · rw [if_neg h0] at h ⊢
          have h2 : firstT sig (m + x) (i + 1) r = (((i + 1 : Nat) : Int) + r.length, 0) := by rw [h, List.length_cons]; congr 1; push_cast; omega
          obtain ⟨g1, g2, g3, g4, g5⟩ := capG_rows ha D N f r (m + x) (i + 1) (j + 1) (by omega) (by omega) (by omega) h2
          refine ⟨by rw [g1, List.length_cons]; congr 1; push_cast; omega, by rw [List.length_cons, List.length_cons]; omega, by rw [List.length_cons]; omega, g4, fun d hd h9 => ?_⟩
          rcases List.mem_cons.1 hd with rfl | hd
          · omega
          · exact g5 d hd h9
    · have e : capG sig D (N + 1) f (c :: r) = ((-1 - (f : Int)) :: (capG sig D N (f + 1) (r.drop (fstN sig (c :: r) - 1))).1, (capG sig D N (f + 1) (r.drop (fstN sig (c :: r) - 1))).2) := by rw [capG, if_neg hc]
      obtain ⟨k, k1, k2, k3, k4, k5, k6⟩ := head_term ha hm h
      rw [e, k3]
      rw [List.length_cons] at k2 k5
      have hd1 : (c :: r).drop k = r.drop (k - 1) := by
        obtain ⟨k', rfl⟩ : ∃ k', k = k' + 1 := ⟨k - 1, by omega⟩
        rfl
      rw [hd1] at k6
      have hcd : codeD sig (-1 - (f : Int)) = some (-1) := codeD_var (by omega) (by omega)
      rw [firstT_cons, hcd]
      simp only
      by_cases h1 : m = 1
      · have hkl := k5 h1
        have hnil : r.drop (k - 1) = [] := by rw [List.drop_eq_nil_iff]; omega
        rw [hnil, capG_nil, if_pos (by omega)]
        refine ⟨by simp, by simp, by simp only [List.length_cons]; omega, by simp, fun d hd h9 => ?_⟩
        rw [List.mem_singleton] at hd
        subst hd
        simp only
        omega
      · have h2 := k6 (by omega)
        rw [if_neg (by omega)]
        have hdl : (r.drop (k - 1)).length = r.length - (k - 1) := List.length_drop
        obtain ⟨g1, g2, g3, g4, g5⟩ := capG_rows ha D N (f + 1) (r.drop (k - 1)) (m - 1) (i + k) (j + 1) (by omega) (by omega) (by omega) (by rw [h2, hdl, List.length_cons]; congr 1; push_cast; omega)
        refine ⟨by rw [show m + -1 = m - 1 by omega, g1, List.length_cons]; congr 1; push_cast; omega, by rw [List.length_cons, List.length_cons]; omega, by rw [List.length_cons]; omega, by omega, fun d hd h9 => ?_⟩
        rcases List.mem_cons.1 hd with rfl | hd
        · omega
        · have := g5 d hd h9
          omega

/-- The CAP of a right term whose root is a symbol is a right term, with variables from nought on. -/
theorem capL_right {sig : List Sy} (ha : ArOk sig) (D : List Int) {t : List Int} (h : rowE sig t = 0) (h0 : 0 ≤ (t[0]?).getD (-1)) (hl : t.length ≤ 1048576) :
    rowE sig (capL sig D t) = 0 ∧ (capL sig D t).length ≤ t.length ∧ ∃ f : Nat, f + 1 ≤ t.length ∧ ∀ c ∈ capL sig D t, c < 0 → -1 - c < (f : Int) := by
  cases t with
  | nil => simp at h0
  | cons c r =>
    simp only [List.getElem?_cons_zero, Option.getD_some] at h0
    rw [row_first, firstT_cons] at h
    rw [List.length_cons] at hl
    unfold capL
    cases hcd : codeD sig c with
    | none => rw [hcd] at h; simp at h
    | some x =>
      rw [hcd] at h
      simp only at h
      have hx := codeD_ge ha hcd
      by_cases hz : 1 + x = 0
      · rw [if_pos hz] at h
        have h2 := congrArg Prod.fst h
        simp only [List.length_cons] at h2
        obtain rfl : r = [] := List.eq_nil_of_length_eq_zero (by omega)
        refine ⟨?_, by simp [capG], 0, by simp, fun d hd h9 => ?_⟩
        · rw [row_first, firstT_cons, hcd]
          simp only
          rw [if_pos hz]
          simp [capG]
        · simp only [capG, List.length_nil, List.mem_singleton] at hd
          omega
      · rw [if_neg hz] at h
        obtain ⟨g1, g2, g3, g4, g5⟩ := capG_rows ha D r.length 0 r (1 + x) 1 1 (Nat.le_refl _) (by omega) (by omega) (by rw [h, List.length_cons]; congr 1; push_cast; omega)
        refine ⟨?_, by rw [List.length_cons, List.length_cons]; omega, (capG sig D r.length 0 r).2, by rw [List.length_cons]; omega, fun d hd h9 => ?_⟩
        · rw [row_first, firstT_cons, hcd]
          simp only
          rw [if_neg hz, g1, List.length_cons]
          congr 1
          push_cast
          omega
        · rcases List.mem_cons.1 hd with rfl | hd
          · omega
          · exact (g5 d hd h9).2

/-- Two rows as far as the first variable of one of them. -/
def beginB : List Int → List Int → Bool
  | [], _ => true
  | _ :: _, [] => true
  | c :: a, d :: b => if c < 0 ∨ d < 0 then true else if c = d then beginB a b else false

/-- What binds make one begins alike. -/
theorem begin_unif {f : Int → Option (List Int)} : ∀ {a b : List Int}, (laidL f a = laidL f b ∨ (∃ q, laidL f a = laidL f b ++ q) ∨ ∃ q, laidL f a ++ q = laidL f b) → beginB a b = true
  | [], _, _ => by simp [beginB]
  | _ :: _, [], _ => by simp [beginB]
  | c :: a, d :: b, h => by
    rw [beginB]
    by_cases h0 : c < 0 ∨ d < 0
    · rw [if_pos h0]
    · rw [if_neg h0]
      have hc : ¬ c < 0 := fun h => h0 (.inl h)
      have hd : ¬ d < 0 := fun h => h0 (.inr h)
      rw [laid_sym hc, laid_sym hd] at h
      have hcd : c = d ∧ (laidL f a = laidL f b ∨ (∃ q, laidL f a = laidL f b ++ q) ∨ ∃ q, laidL f a ++ q = laidL f b) := by
        rcases h with h | ⟨q, h⟩ | ⟨q, h⟩
        · simp only [List.cons.injEq] at h
          exact ⟨h.1, .inl h.2⟩
        · simp only [List.cons_append, List.cons.injEq] at h
          exact ⟨h.1, .inr (.inl ⟨q, h.2⟩)⟩
        · simp only [List.cons_append, List.cons.injEq] at h
          exact ⟨h.1, .inr (.inr ⟨q, h.2⟩)⟩
      rw [if_pos hcd.1]
      exact begin_unif hcd.2

theorem begin_of {sig : List Sy} {a b : List Int} (h : Unif sig a b) : beginB a b = true := by
  obtain ⟨f, _, he⟩ := h
  exact begin_unif (.inl he)

end Go.Proofs.YtoapgbaibpkckaaGreatDoor
