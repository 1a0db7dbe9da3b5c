/- Texts of the proof, one behind the other. -/
import Derived.Test.YtfeeafkfjngemaaDoorOwn7
import Derived.Test.YtfeeafkfjngemaaDoorOwn4
import Derived.Test.YtfeeafkfjngemaaDoorOwn6
import Derived.Test.YtfeeafkfjngemaaDoorOwn5
import Derived.Ground.Names2Prog
import Derived.Shelf.Slices.CompactI
import Derived.Test.YtfeeafkfjngemaaDoorOwn8
/- What the law file's helpers do: same, lent, kept, spoil, three, which. -/
namespace Go.Proofs.YtfeeafkfjngemaaDoor
open Go.RowKit Go.Maps Go.BigFrame

theorem join_two (ty : TypeId) {w : World} {base : Nat} {x u : Value} {xs es : List Int} (ho : OwI w base x xs) (hs : Is w u es) (hb : base ≤ w.heap.size) (hl : (xs.length + es.length) * 8 ≤ 140737488355328) :
    ∃ v' w', (Builtin.append_ #[30, 30] ty #[x, u]).run Tryd.prog w = .ok v' w' ∧ OwI w' base v' (xs ++ es) ∧ w.grownBy w' x.ownBlock ∧ (v'.ownBlock = x.ownBlock ∨ v'.ownBlock = some w.heap.size) := by
  obtain ⟨i0, hi, hz0, hz1, hz2⟩ := info_parts info_int
  have hZ : ZI es := fun k x hk => by
    obtain ⟨ao, cap, rfl, _, _, hx⟩ := Row.flat hs
    obtain ⟨_, _, y, _, hy, h1, h2, _⟩ := hx k (List.getElem?_eq_some_iff.1 hk).1
    rw [hk] at hy
    cases hy
    exact ⟨h1, h2⟩
  have hZ2 : ZI (xs ++ es) := fun k y hk => by
    by_cases hkl : k < xs.length
    · rw [List.getElem?_append_left hkl] at hk
      exact ho.1 k y hk
    · rw [List.getElem?_append_right (by omega)] at hk
      exact hZ _ y hk
  obtain ⟨ao, cap, rfl, hc, hm, hx⟩ := hs
  by_cases h0 : es.length = 0
  · obtain rfl : es = [] := List.eq_nil_of_length_eq_zero h0
    obtain ⟨bo, bc, rfl, hbc, _⟩ := ho.shape
    refine ⟨_, w, run_append_nothing w 30 30 ty 3 i0 under_ints hi _ xs.length bc hbc _ ?_, by rw [List.append_nil]; exact ho, World.grownBy.refl _ _, .inl rfl⟩
    cases ao with
    | none => exact Src.ofNil w under_ints _
    | some a => exact Src.ofSlice w under_ints a 0 _ [] (by simp) (fun j u hj => (by simp at hj)) (fun u hu => (by simp at hu))
  · obtain ⟨g', off, rfl, hg, hcell⟩ := hx (by omega)
    obtain ⟨v', w', hr, h2, h3, _, h5⟩ := run_append_own_at (P := Tryd.prog) w base 30 ty 3 i0 _ 1 8 under_ints hi hz0 hz1 hz2 rfl (by decide) _ xs.length (xs.map I64) ho.2 ⟨g', off, none⟩ es.length cap (es.map I64) (by simp) (fun j u hj => by
      rw [List.getElem?_map] at hj
      cases hk : es[j]? with
      | none => rw [hk] at hj; simp at hj
      | some x =>
        rw [hk] at hj
        simp at hj
        subst hj
        rw [Addr.add_lit]
        have := (hcell j x hk).2.2
        rw [Nat.mul_one] at this
        exact this) (fun u hu => by obtain ⟨x, _, rfl⟩ := List.mem_map.1 hu; rfl) (by unfold maxLen; omega) (by omega) hb
    refine ⟨v', w', hr, ⟨hZ2, ?_⟩, h3, h5⟩
    rw [List.length_append, List.map_append]
    exact h2

theorem I64_one (xs : List Int) : ∀ u ∈ xs.map I64, u.oneCell' = true := fun u hu => by obtain ⟨x, _, rfl⟩ := List.mem_map.1 hu; rfl

theorem run_copy_ints {w : World} {base g n cap cap' : Nat} {ao : Option Addr} {zs xs : List Int} (ho : OwI w base (.slice (some ⟨g, 0, none⟩) n cap) zs) (hn : n = zs.length)
    (hs : Is w (.slice ao xs.length cap') xs) (hle : xs.length ≤ n) :
    ∃ w', (Builtin.copy_ #[30, 30] 3 #[.slice (some ⟨g, 0, none⟩) n cap, .slice ao xs.length cap']).run Tryd.prog w = .ok (goInt xs.length) w' ∧
      OwI w' base (.slice (some ⟨g, 0, none⟩) n cap) (xs ++ zs.drop xs.length) ∧ w.grownBy w' (some g) := by
  subst hn
  have hsz : (Tryd.prog.info? 3).map (·.size) = some 1 := by kernel_rfl
  by_cases h0 : xs.length = 0
  · obtain rfl : xs = [] := List.eq_nil_of_length_eq_zero h0
    have := run_copy_none (P := Tryd.prog) w 30 30 3 3 (some ⟨g, 0, none⟩) ao zs.length cap 0 cap' under_ints hsz (by simp)
    exact ⟨w, this, by simpa using ho, World.grownBy.refl _ _⟩
  · have hZ := hs.range
    obtain ⟨ao', c', hv, hc, hm, hx⟩ := hs
    simp only [Value.slice.injEq] at hv
    obtain ⟨rfl, _, rfl⟩ := hv
    obtain ⟨g', off, rfl, hg, hx⟩ := hx (by omega)
    rcases ho.2.2 with ⟨hv, _⟩ | ⟨g2, cap2, cur, hv, hb, hg2, hc2, hm2, hs2, ht2⟩
    · simp at hv
    · simp only [Value.slice.injEq, Option.some.injEq, Addr.mk.injEq, and_true, true_and] at hv
      obtain ⟨rfl, rfl⟩ := hv
      have hmin : xs.length = Nat.min xs.length zs.length := (Nat.min_eq_left hle).symm
      have hcur : zs.length ≤ cur.size := by omega
      have := run_copy_row (P := Tryd.prog) w 30 30 3 3 g 0 zs.length cap ⟨g', off, none⟩ xs.length cap' cur 3 (xs.map I64) under_ints hsz hg2
        (by simpa using hmin) (by
          intro j v hj
          simp only [List.getElem?_map, Option.map_eq_some_iff] at hj
          obtain ⟨x, hx1, rfl⟩ := hj
          rw [Addr.add_lit]
          have := (hx j x hx1).2.2
          rw [Nat.mul_one] at this
          exact this) (by simp; omega) (I64_one xs)
      refine ⟨_, by simpa using this, ⟨?_, ?_, .inr ⟨g, cap, _, by rw [List.length_append, List.length_drop, show xs.length + (zs.length - xs.length) = zs.length by omega], hb, setRow_heap w g cur _ 3 _ hg2, ?_, hm2, ?_, ?_⟩⟩, ?_⟩
      · intro k y hk
        by_cases hkl : k < xs.length
        · rw [List.getElem?_append_left hkl] at hk
          exact hZ k y hk
        · rw [List.getElem?_append_right (by omega), List.getElem?_drop] at hk
          exact ho.1 _ y hk
      · simp
      · simp; omega
      · simp; omega
      · have hl : (xs.map I64).length = xs.length := by simp
        rw [List.length_append, List.length_drop, show xs.length + (zs.length - xs.length) = zs.length by omega]
        simp only [List.map_append, List.map_drop, ← ht2, List.drop_take, Nat.mul_one]
        rw [List.take_append, hl, List.take_of_length_le (by simp; omega)]
      · exact ⟨rfl, rfl, rfl, by simp [World.setRow], fun k _ hk => setRow_other w g k _ (fun e => hk (by simp [e]))⟩

/-- A row and three marks behind it. -/
def marked (xs : List Int) : List Int := xs ++ [77, 77, 77]

theorem mark_step (xs R : List Int) (k : Nat) : (xs ++ List.replicate k 77) ++ 77 :: R = (xs ++ List.replicate (k + 1) 77) ++ R := by
  rw [List.replicate_succ']; simp

theorem get_midI {α : Type} {L : List α} {x : α} {R : List α} {k : Nat} (hk : L.length = k) : (L ++ x :: R)[k]? = some x := by subst hk; simp

theorem marked_lo {xs : List Int} {k : Nat} {x : Int} (h : xs[k]? = some x) : (marked xs)[k]? = some x := by
  have hk := (List.getElem?_eq_some_iff.1 h).1
  unfold marked
  rw [List.getElem?_append_left hk, h]

theorem marked_hi {xs : List Int} {k : Nat} (h1 : ¬ k < xs.length) (h2 : k < xs.length + 3) : (marked xs)[k]? = some 77 := by
  unfold marked
  rw [List.getElem?_append_right (by omega)]
  obtain ⟨j, rfl⟩ : ∃ j, k = xs.length + j := ⟨k - xs.length, by omega⟩
  rw [Nat.add_sub_cancel_left]
  match j, (by omega : j < 3) with
  | 0, _ => rfl
  | 1, _ => rfl
  | 2, _ => rfl

theorem cutI {w : World} {base g n cap : Nat} {xs ys : List Int} (h : OwI w base (.slice (some ⟨g, 0, none⟩) n cap) (xs ++ ys)) : Is w (.slice (some ⟨g, 0, none⟩) xs.length cap) xs := by
  obtain ⟨ao, cp, hv, hc, hm, hx⟩ := h.is
  simp only [Value.slice.injEq] at hv
  obtain ⟨rfl, _, rfl⟩ := hv
  rw [List.length_append] at hc
  refine ⟨_, cap, rfl, by omega, hm, fun h0 => ?_⟩
  obtain ⟨g', off, e, hg, hcell⟩ := hx (by rw [List.length_append]; omega)
  simp only [Option.some.injEq, Addr.mk.injEq, and_true] at e
  obtain ⟨rfl, rfl⟩ := e
  exact ⟨g, 0, rfl, hg, fun k x hk => hcell k x (by rw [List.getElem?_append_left (List.getElem?_eq_some_iff.1 hk).1]; exact hk)⟩

theorem grown_stepT {a b c : World} {r r' : Option Nat} (h : a.grownBy b r) (h' : b.grownBy c r') (hr : ∀ g, r' = some g → r = some g ∨ a.heap.size ≤ g) : a.grownBy c r :=
  ⟨h'.os.trans h.os, h'.tape.trans h.tape, h'.output.trans h.output, Nat.le_trans h.size h'.size, fun k hk hne => (h'.block k (Nat.lt_of_lt_of_le hk h.size) (fun e => by
    rcases hr k e.symm with h1 | h1
    · exact hne h1.symm
    · omega)).trans (h.block k hk hne)⟩

/-- Which of n places. -/
def whichN (c : Int) (n : Nat) : Nat := ((if c < 0 then -(c + 1) else c) % (n : Int)).toNat

theorem which_lt (c : Int) (n : Nat) (hn : 0 < n) : whichN c n < n := by
  unfold whichN
  have h1 := Int.emod_nonneg (if c < 0 then -(c + 1) else c) (b := (n : Int)) (by omega)
  have h2 := Int.emod_lt_of_pos (if c < 0 then -(c + 1) else c) (b := (n : Int)) (by omega)
  omega

end Go.Proofs.YtfeeafkfjngemaaDoor

/- Defined of package system walked. -/
namespace Go.Proofs.YtfeeafkfjngemaaDoor
open Go.RowKit Go.Maps Go.BigFrame

-- function 21
def Tryd.compLay_ren : Go.Shelf.Ren := ⟨fun | 20 => 21 | n => n, fun | 22 => 30 | 3 => 3 | 4 => 4 | 0 => 0 | n => n, fun | n => n⟩
theorem Tryd.compLay : Go.Proofs.Lays2.n20 Tryd.prog Tryd.compLay_ren := {
  mixed := by kernel_rfl
  f20 := Tryd.func21.trans (congrArg some (by kernel_rfl))
  t0 := Tryd.underlying0
  a0 := Tryd.isAgg0
  z0 := Tryd.sizeOf0
  v0 := Tryd.zeroValue0
  t3 := Tryd.underlying3
  a3 := Tryd.isAgg3
  z3 := Tryd.sizeOf3
  v3 := Tryd.zeroValue3
  t4 := Tryd.underlying4
  a4 := Tryd.isAgg4
  z4 := Tryd.sizeOf4
  v4 := Tryd.zeroValue4
  t22 := Tryd.underlying30
  a22 := Tryd.isAgg30
  z22 := Tryd.sizeOf30
  v22 := Tryd.zeroValue30
  i3 := by kernel_rfl }

theorem compactI_any (v : Value) (xs : List Int) (w : World) (base : Nat) (ho : OwI w base v xs) (hn : xs.length ≤ 9223372036854775807) :
    Calls Tryd.prog 21 #[v] w fun e w' => ∃ v', e = .returned v' ∧ Is w' v' (Lib.compact xs) ∧ w.grownBy w' v.ownBlock := by
  rcases ho.2.2 with ⟨rfl, h0⟩ | ⟨g, cap, cur, rfl, hb, hg, hc, hm, hs, ht⟩
  · obtain rfl : xs = [] := List.eq_nil_of_length_eq_zero h0
    have hcon := Any.slices_Compact_int_empty Tryd.compLay none 0 w
    change Calls Tryd.prog 21 _ _ _ at hcon
    refine hcon.mono ?_
    rintro e w' ⟨rfl, rfl⟩
    exact ⟨_, rfl, Row.nil (by simp [maxLen]), World.grownBy.refl _ _⟩
  · rw [Nat.mul_one] at ht
    have hcon := Any.slices_Compact_int Tryd.compLay g 0 cap xs w (holds_of_blockI hg ht) hn hc
    change Calls Tryd.prog 21 _ _ _ at hcon
    refine hcon.mono ?_
    rintro e w' ⟨rfl, q, rfl⟩
    have hcl : (Lib.compact xs).length ≤ xs.length := by
      unfold Lib.compact Lib.compactUpTo
      rw [List.length_map]
      have := List.length_filter_le (Lib.keeps xs.toArray) (List.range xs.length)
      simpa using this
    have hmem : ∀ x ∈ Lib.compact xs, x ∈ xs := fun x hx => by
      unfold Lib.compact Lib.compactUpTo at hx
      obtain ⟨j, hj, rfl⟩ := List.mem_map.1 hx
      have hj2 := (List.mem_filter.1 hj).1
      rw [List.mem_range] at hj2
      rw [getElem!_pos xs.toArray j (by simpa using hj2)]
      simp
    have hgr := grownBy_sortedI (w := w) (g := g) (n := q) (os := #[]) (Lib.compact xs ++ List.replicate (xs.length - (Lib.compact xs).length) 0).toArray
    have how := ownsRow_sortedI (n := q) (os := #[]) (ts := Lib.compact xs ++ List.replicate (xs.length - (Lib.compact xs).length) 0) (ss := xs) (by rw [List.length_append, List.length_replicate]; omega) hb hg hc hm hs
    rw [Sort.grow_empty] at hgr how
    refine ⟨_, rfl, cutI (base := base) (n := xs.length) (ys := List.replicate (xs.length - (Lib.compact xs).length) 0) ⟨?_, ?_⟩, hgr⟩
    · intro k x hk
      have hx := List.mem_of_getElem? hk
      rcases List.mem_append.1 hx with hx | hx
      · obtain ⟨j, hj⟩ := List.getElem?_of_mem (hmem x hx)
        exact ho.1 j x hj
      · obtain rfl := (List.mem_replicate.1 hx).2
        omega
    · rw [List.length_append, List.length_replicate, show (Lib.compact xs).length + (xs.length - (Lib.compact xs).length) = xs.length by omega]
      exact how

theorem rules_right {sig : List Sy} : ∀ (rs : List Rl) (k : Nat), (rulesGo sig k rs).1 = 0 → ∀ r ∈ rs, ruleE sig r = 0
  | [], _, _, r, hr => by simp at hr
  | a :: rs, k, h, r, hr => by
    unfold rulesGo at h
    by_cases ha : ruleE sig a = 0
    · rw [if_pos ha] at h
      rcases List.mem_cons.1 hr with rfl | hr
      · exact ha
      · exact rules_right rs (k + 1) h r hr
    · rw [if_neg ha] at h
      exact absurd h ha

theorem sys_right {sig : List Sy} {rs : List Rl} (h : sysB sig rs = true) : aheadE sig rs.length = 0 ∧ ∀ r ∈ rs, ruleE sig r = 0 := by
  have h1 : (sysE sig rs).1 = 0 := by simpa [sysB] using h
  unfold sysE at h1
  by_cases ha : aheadE sig rs.length = 0
  · rw [if_pos ha] at h1
    exact ⟨ha, rules_right rs 0 h1⟩
  · rw [if_neg ha] at h1
    exact absurd h1 ha

theorem rule_parts {sig : List Sy} {r : Rl} (h : ruleE sig r = 0) : termE sig r.1 = 0 ∧ termE sig r.2 = 0 ∧ r.1.length ≤ 512 ∧ r.2.length ≤ 512 ∧ (0 : Int) ≤ (r.1[0]?).getD 0 ∧ freeB r.1 r.2 = false := by
  unfold ruleE at h
  by_cases h1 : termE sig r.1 = 0
  · rw [if_pos h1] at h
    by_cases h2 : termE sig r.2 = 0
    · rw [if_pos h2] at h
      by_cases h3 : 512 < r.1.length ∨ 512 < r.2.length
      · rw [if_pos h3] at h; omega
      · rw [if_neg h3] at h
        by_cases h4 : (r.1[0]?).getD 0 < 0
        · rw [if_pos h4] at h; omega
        · rw [if_neg h4] at h
          cases h5 : freeB r.1 r.2 with
          | true => rw [h5] at h; simp at h
          | false => exact ⟨h1, h2, by omega, by omega, by omega, rfl⟩
    · rw [if_neg h2] at h
      exact absurd h h2
  · rw [if_neg h1] at h
    exact absurd h h1

theorem ahead_parts {sig : List Sy} {n : Nat} (h : aheadE sig n = 0) : sigE sig = 0 ∧ sig.length ≤ 64 ∧ (sig.any fun s => sufB s.1) = false ∧ n ≤ 64 := by
  unfold aheadE at h
  by_cases h1 : sigE sig = 0
  · rw [if_pos h1] at h
    by_cases h2 : 64 < sig.length
    · rw [if_pos h2] at h; omega
    · rw [if_neg h2] at h
      cases h3 : (sig.any fun s => sufB s.1) with
      | true => rw [h3] at h; simp at h
      | false =>
        rw [h3] at h
        by_cases h4 : 64 < n
        · simp [h4] at h
        · exact ⟨h1, by omega, rfl, by omega⟩
  · rw [if_neg h1] at h
    exact absurd h h1

/-- The codes at the roots of left sides. -/
def rootsL (rs : List Rl) : List Int := rs.map fun r => (r.1[0]?).getD 0

def definedL (sig : List Sy) (rs : List Rl) : List Int := if sysB sig rs then Lib.compact (sortI (rootsL rs)) else []

set_option maxRecDepth 100000 in
set_option maxHeartbeats 800000 in
theorem defined_any (sv rv : Value) (sig : List Sy) (rs : List Rl) (w : World) (hs : Sg w sv sig) (hr : RU w rv rs) (hT : Tabs w) :
    Calls Tryd.prog 8 #[.agg #[sv, rv]] w fun e w' => ∃ v', e = .returned v' ∧ Is w' v' (definedL sig rs) ∧ Below w.heap.size w w' := by
  obtain ⟨so, sc, rfl, hso, hsc, _⟩ := Row.flat hs
  obtain ⟨ro, rc, rfl, hro, hrc, _⟩ := Row.flat hr
  unfold maxLen at hsc hrc
  have HS := hid hs
  have HR := hid hr
  have HT := hid hT
  clear hs hr hT
  obtain ⟨w0, hw0⟩ : ∃ X, X = w.alloc (.cells #[.slice so sig.length sc, .slice ro rs.length rc] 25) := ⟨_, rfl⟩
  have C0 : Hid (Below w.heap.size w w0) := by rw [hw0]; exact below_alloc _
  have HC : Hid (∀ W, Below w0.heap.size w0 W → W.cell? ⟨w.heap.size, 0, none⟩ = some (.slice so sig.length sc) ∧ W.cell? ⟨w.heap.size, 1, none⟩ = some (.slice ro rs.length rc)) := fun W hW => by
    have hk := Kp.of_below hW
    rw [hw0] at hk
    exact ⟨hk.cell _ _ (cell_new rfl), hk.cell _ _ (cell_new rfl)⟩
  obtain ⟨x0, x1⟩ := HC.out w0 (Below.refl _ _)
  go_enter Tryd.func8, Tryd.ntmps8
  go_wp2_with fail
  rw [← hw0]
  clear hw0
  refine (isRight_any _ _ sig rs w0 (HS.out.kp (Kp.of_below C0.out)) (HR.out.kp (Kp.of_below C0.out)) (HT.out.below C0.out)).mono ?_
  rintro e w1 ⟨rfl, hb1⟩
  have C1 := hid (below_step C0.out hb1)
  have D1 := hid hb1
  clear hb1 x0 x1
  cases hok : sysB sig rs with
  | false =>
    have HF : Hid (definedL sig rs = []) := by show _ = _; unfold definedL; rw [hok]; rfl
    clear hok
    go_wp2
    go_ret
    exact ⟨_, rfl, by rw [HF.out]; exact Row.nil (by simp [maxLen]), C1.out⟩
  | true =>
    have HF : Hid (definedL sig rs = Lib.compact (sortI (rootsL rs))) := by show _ = _; unfold definedL; rw [hok]; rfl
    obtain ⟨hah, hru⟩ := sys_right hok
    have HRu := hid hru
    have hr64 := (ahead_parts hah).2.2.2
    obtain ⟨x0, x1⟩ := HC.out w1 D1.out
    clear hok hah hru
    go_wp2
    go_loopw [3, 12] (fun ov iv wr => ∃ k : Nat, k ≤ rs.length ∧ iv = .int .i64 k ∧ OwI wr w1.heap.size ov (rootsL (rs.take k)) ∧ Below w1.heap.size w1 wr) (fun _ iv _ => rs.length - (intOf iv).toNat)
    case atStart => exact ⟨0, Nat.zero_le _, rfl, ⟨fun k x hk => (by simp [rootsL] at hk), World.ownsRow_nil _ _ _ _⟩, Below.refl _ _⟩
    case round =>
      obtain ⟨k, hk, rfl, how, hbl⟩ := hrel
      have HO := hid how
      have HB := hid hbl
      have CB := hid (below_step C1.out hbl)
      clear how
      by_cases hlt : k < rs.length
      · obtain ⟨g, off, l, r, a1, c1, a2, c2, rfl, hm, hc0, hc1, hi1, hi2, hl1, hl2⟩ := (HR.out.kp (Kp.of_below CB.out)).at hlt
        have hrp := rule_parts (HRu.out _ (List.mem_of_getElem? hm))
        have hlp := row_posS (term_parts hrp.1).2
        obtain ⟨gl, ol, c, rfl, hc, hcx, hcb1, hcb2⟩ := hi1.at hlp
        rw [Nat.add_zero] at hcx
        have HN : Hid (rootsL (rs.take (k + 1)) = rootsL (rs.take k) ++ [c]) := by
          show _ = _
          unfold rootsL
          rw [take_get hm, List.map_append]
          simp only [List.map_cons, List.map_nil]
          rw [hc]
          rfl
        have hll : (rootsL (rs.take k)).length = k := by unfold rootsL; rw [List.length_map, List.length_take]; omega
        obtain ⟨W, hW⟩ : ∃ X, X = wr.alloc (.cells #[.slice (some ⟨gl, ol, none⟩) l.length c1, .slice a2 r.length c2] 37) := ⟨_, rfl⟩
        have BW : Hid (Below wr.heap.size wr W) := by rw [hW]; exact below_alloc _
        have y0 : W.cell? ⟨gl, ol, none⟩ = some (.int .i64 c) := (Kp.of_below BW.out).cell _ _ hcx
        have y1 : W.cell? ⟨wr.heap.size, 0, none⟩ = some (.slice (some ⟨gl, ol, none⟩) l.length c1) := by rw [hW]; exact cell_new rfl
        obtain ⟨v6, w6, hr6, ho6, hg6, _⟩ := join_one 30 (HO.out.later BW.out) hcb1 hcb2 (Nat.le_trans HB.out.size BW.out.size) (by rw [hll]; omega)
        have hB9 := below_step HB.out (below_step BW.out (below_alloc (.cells #[.int .i64 c] 3)))
        have HB6 : Hid (Below w1.heap.size w1 w6) := hB9.grown hg6 hB9.size (fun j hj => own_blk HO.out.2 hj)
        rw [← HN.out] at ho6
        have HO6 := hid ho6
        rw [hW, World.size_alloc] at hr6
        rw [hW] at y0
        have HR6 := hid hr6
        clear hr6 ho6 hg6 hB9 hW BW hm hi1 hi2 hrp hc hbl y1
        go_wp2_with (first
          | (at_builtin; refine wpList_append_run rfl _ _ _ rfl _ _ rfl rfl HR6.out ?_))
        go_roundw
        case rel => exact ⟨k + 1, hlt, by go_num, HO6.out, HB6.out⟩
        case measure => simp only [intOf]; omega
      · have hke : rs.take k = rs := List.take_of_length_le (by omega)
        have hO := HO.out
        rw [hke] at hO
        have hrl : (rootsL rs).length ≤ 64 := by unfold rootsL; rw [List.length_map]; exact hr64
        have HO2 := hid hO
        clear hO hke HO hbl
        go_wp2_with fail
        refine (sortI_any _ (rootsL rs) wr w1.heap.size HO2.out (by omega)).mono ?_
        rintro e w7 ⟨rfl, ho7, hg7⟩
        have HO7 := hid ho7
        have HB7 : Hid (Below w1.heap.size w1 w7) := HB.out.grown hg7 HB.out.size (fun j hj => own_blk HO2.out.2 hj)
        clear ho7 hg7
        go_wp2_with fail
        refine (compactI_any _ (sortI (rootsL rs)) w7 w1.heap.size HO7.out (by rw [sortI_len]; omega)).mono ?_
        rintro e w8 ⟨v8, rfl, hi8, hg8⟩
        have HI8 := hid hi8
        have HB8 : Hid (Below w1.heap.size w1 w8) := HB7.out.grown hg8 HB7.out.size (fun j hj => own_blk HO7.out.2 hj)
        clear hi8 hg8
        go_wp2
        go_ret
        exact ⟨_, rfl, by rw [HF.out]; exact HI8.out, below_step C1.out HB8.out⟩

end Go.Proofs.YtfeeafkfjngemaaDoor

/- Pairing rules, plainly. -/
namespace Go.Proofs.YtfeeafkfjngemaaDoor
open Go.RowKit Go.Maps

/-- Whether each rule finds a partner of its own, one after the other. -/
def pairB (sig : List Sy) : List Rl → List Rl → Bool
  | [], _ => true
  | x :: a, B => if B.any (vrP sig x) then pairB sig a (B.eraseP (vrP sig x)) else false

theorem vr_parts {sig : List Sy} {x y : Rl} (h : vrP sig x y = true) : (termE sig x.1 = 0 ∧ termE sig x.2 = 0 ∧ termE sig y.1 = 0 ∧ termE sig y.2 = 0) ∧ canL [x.1, x.2] = canL [y.1, y.2] := by
  unfold vrP termsB at h
  simpa using h

theorem vr_shape {sig : List Sy} {x y : Rl} (hx : ruleE sig x = 0) (h : vrP sig x y = true) : shOf y = shOf x := by
  obtain ⟨⟨hx1, _, hy1, _⟩, hc⟩ := vr_parts h
  obtain ⟨h1, h2, h3⟩ := can_iff.1 hc
  obtain ⟨_, _, _, _, hr0, _⟩ := rule_parts hx
  have hxl := row_posS (term_parts hx1).2
  have hyl := row_posS (term_parts hy1).2
  have ex : x.1[0]? = some x.1[0] := List.getElem?_eq_getElem hxl
  have ey : y.1[0]? = some y.1[0] := List.getElem?_eq_getElem hyl
  rw [ex] at hr0
  have h4 := h3.codes 0 x.1[0] y.1[0] (by rw [List.getElem?_append_left hxl]; exact ex) (by rw [List.getElem?_append_left hyl]; exact ey) (.inl hr0)
  unfold shOf
  rw [ex, ey, h4, h1, h2]

theorem filter_erase_in {α : Type} (q P : α → Bool) (h : ∀ z, P z = true → q z = true) : ∀ B : List α, (B.eraseP P).filter q = (B.filter q).eraseP P
  | [] => rfl
  | z :: B => by
    cases hp : P z with
    | true =>
      rw [List.eraseP_cons_of_pos hp, List.filter_cons_of_pos (h z hp), List.eraseP_cons_of_pos hp]
    | false =>
      rw [List.eraseP_cons_of_neg (by simp [hp])]
      cases hq : q z with
      | true => rw [List.filter_cons_of_pos hq, List.filter_cons_of_pos hq, List.eraseP_cons_of_neg (by simp [hp]), filter_erase_in q P h B]
      | false => rw [List.filter_cons_of_neg (by simp [hq]), List.filter_cons_of_neg (by simp [hq]), filter_erase_in q P h B]

theorem filter_erase_out {α : Type} (q P : α → Bool) (h : ∀ z, P z = true → q z = false) : ∀ B : List α, (B.eraseP P).filter q = B.filter q
  | [] => rfl
  | z :: B => by
    cases hp : P z with
    | true => rw [List.eraseP_cons_of_pos hp, List.filter_cons_of_neg (by simp [h z hp])]
    | false =>
      rw [List.eraseP_cons_of_neg (by simp [hp])]
      cases hq : q z with
      | true => rw [List.filter_cons_of_pos hq, List.filter_cons_of_pos hq, filter_erase_out q P h B]
      | false => rw [List.filter_cons_of_neg (by simp [hq]), List.filter_cons_of_neg (by simp [hq]), filter_erase_out q P h B]

theorem erase_at {α : Type} (P : α → Bool) : ∀ (L : List α) (i : Nat) (y : α), L[i]? = some y → P y = true → (∀ z ∈ L.take i, P z = false) → L.eraseP P = L.eraseIdx i
  | [], i, y, h, _, _ => by simp at h
  | z :: L, 0, y, h, hp, _ => by
    simp at h
    subst h
    rw [List.eraseP_cons_of_pos hp]
    rfl
  | z :: L, i + 1, y, h, hp, hno => by
    have hz : P z = false := hno z (by simp)
    rw [List.eraseP_cons_of_neg (by simp [hz]), List.eraseIdx_cons_succ]
    rw [erase_at P L i y (by simpa using h) hp (fun x hx => hno x (by simp [hx]))]

theorem pair_none {sig : List Sy} {x : Rl} {B : List Rl} (hx : ruleE sig x = 0) (h : ∀ y ∈ groupF B (shOf x), vrP sig x y = false) : B.any (vrP sig x) = false := by
  rw [List.any_eq_false]
  intro y hy hv
  have h1 := h y (by unfold groupF; exact List.mem_filter.2 ⟨hy, by simpa using vr_shape hx hv⟩)
  rw [h1] at hv
  cases hv

theorem pair_some {sig : List Sy} {x y : Rl} {B : List Rl} {i : Nat} (hx : ruleE sig x = 0) (hi : (groupF B (shOf x))[i]? = some y) (hv : vrP sig x y = true) (hno : ∀ z ∈ (groupF B (shOf x)).take i, vrP sig x z = false) :
    B.any (vrP sig x) = true ∧ groupF (B.eraseP (vrP sig x)) = setG (groupF B) (shOf x) ((groupF B (shOf x)).eraseIdx i) := by
  have hy := List.mem_of_getElem? hi
  unfold groupF at hy
  refine ⟨List.any_eq_true.2 ⟨y, (List.mem_filter.1 hy).1, hv⟩, ?_⟩
  funext k
  unfold setG
  by_cases e : k = shOf x
  · subst e
    rw [if_pos rfl, ← erase_at (vrP sig x) _ i y hi hv hno]
    unfold groupF
    exact filter_erase_in _ _ (fun z hz => by simpa using vr_shape hx hz) B
  · rw [if_neg e]
    unfold groupF
    exact filter_erase_out _ _ (fun z hz => by simpa using fun h9 => e (h9.symm.trans (vr_shape hx hz))) B

theorem erase_sub {α : Type} {P : α → Bool} {B : List α} {z : α} (h : z ∈ B.eraseP P) : z ∈ B := List.eraseP_sublist.subset h

end Go.Proofs.YtfeeafkfjngemaaDoor

/- arePaired of package system walked. -/
namespace Go.Proofs.YtfeeafkfjngemaaDoor
open Go.RowKit Go.Maps Go.BigFrame

theorem OU.far {w0 w : World} {gr k : Nat} {e' : TypeId} {v : Value} {rs : List Rl} (h : OU w0 w v rs) (hs : Shp w gr e' k) (hne : 37 ≠ e') : v.ownBlock = none ∨ v.ownBlock ≠ some gr := by
  obtain ⟨_, _, _, ho⟩ := h
  rcases ho.2 with ⟨rfl, _⟩ | ⟨g, cap, cur, rfl, _, hg, _⟩
  · exact .inl rfl
  · refine .inr (fun e => ?_)
    simp only [Value.ownBlock, Option.some.injEq] at e
    subst e
    obtain ⟨cur2, hg2, _⟩ := hs
    rw [hg] at hg2
    simp only [Option.some.injEq, Obj.cells.injEq] at hg2
    exact absurd hg2.2.1 hne

theorem cell_block {w w' : World} {g : Nat} (h : w'.heap[g]? = w.heap[g]?) (k : Nat) : w'.cell? ⟨g, k, none⟩ = w.cell? ⟨g, k, none⟩ := by
  simp only [World.cell?, h]

set_option maxRecDepth 100000 in
set_option maxHeartbeats 3200000 in
theorem arePaired_any (sv av bv : Value) (sig : List Sy) (a b : List Rl) (w : World) (hs : Sg w sv sig) (ha : RU w av a) (hb : RU w bv b) (hT : Tabs w) (hra : ∀ r ∈ a, ruleE sig r = 0) (hrb : ∀ r ∈ b, ruleE sig r = 0) (hla : a.length ≤ 64) (hlb : b.length ≤ 64) :
    Calls Tryd.prog 23 #[sv, av, bv] w fun e w' => e = .returned (.bool (pairB sig a b)) ∧ Below w.heap.size w w' := by
  obtain ⟨so, sc, rfl, hso, hsc, _⟩ := Row.flat hs
  obtain ⟨ao, ac, rfl, hao, hac, _⟩ := Row.flat ha
  unfold maxLen at hsc hac
  have HS := hid hs
  have HA := hid ha
  have HBb := hid hb
  have HT := hid hT
  have HRa := hid hra
  have HRb := hid hrb
  clear hs ha hb hT hra hrb
  obtain ⟨W0, hW0⟩ : ∃ X, X = w.alloc (.cells #[.slice so sig.length sc] 22) := ⟨_, rfl⟩
  have C0 : Hid (Below w.heap.size w W0) := by rw [hW0]; exact below_alloc _
  have HCs : Hid (W0.cell? ⟨w.heap.size, 0, none⟩ = some (.slice so sig.length sc)) := by rw [hW0]; exact cell_new rfl
  obtain ⟨R, hR⟩ : ∃ R, R = pairB sig a b := ⟨_, rfl⟩
  have HR := hid hR
  rw [← hR]
  clear hR
  go_enter Tryd.func23, Tryd.ntmps23
  go_wp2_with fail
  rw [← hW0]
  clear hW0
  refine (byShape_any _ b W0 (HBb.out.kp (Kp.of_below C0.out)) (fun r hr => row_posS (term_parts (rule_parts (HRb.out r hr)).1).2) hlb).mono ?_
  rintro e w1 ⟨mb, n1, f1, rfl, hgs1, hn1, hb1⟩
  have HG1 := hid hgs1
  have D1 := hid hb1
  clear hgs1 hb1
  go_wp2
  go_loopw [16] (fun iv wr => ∃ (k n : Nat) (f : Sh → Option Value) (B : List Rl), k ≤ a.length ∧ n ≤ 64 + k ∧ B.length ≤ 64 ∧ iv = .int .i64 k ∧ R = pairB sig (a.drop k) B ∧ (∀ r ∈ B, r ∈ b) ∧ GS W0 wr mb n (groupF B) f ∧ Below W0.heap.size W0 wr) (fun iv _ => a.length - (intOf iv).toNat)
  case atStart => exact ⟨0, n1, f1, b, Nat.zero_le _, by omega, hlb, rfl, HR.out, fun r h => h, HG1.out, D1.out⟩
  case round =>
    obtain ⟨k, n, f, B, hk, hn, hBl, rfl, hpr, hsub, hgs, hbl⟩ := hrel
    have HPr := hid hpr
    have HSub := hid hsub
    have HG := hid hgs
    have HB := hid hbl
    have CB := hid (below_step C0.out hbl)
    clear hpr hsub hgs HG1
    by_cases hlt : k < a.length
    · obtain ⟨g, off, l, r, a1, c1, a2, c2, rfl, hm, hd0, hd1, hi1, hi2, hl1, hl2⟩ := (HA.out.kp (Kp.of_below CB.out)).at hlt
      have hrx := HRa.out _ (List.mem_of_getElem? hm)
      have hlp : 0 < l.length := row_posS (term_parts (rule_parts hrx).1).2
      have HI1 := hid hi1
      have HI2 := hid hi2
      have HRx := hid hrx
      have HDr := hid (drop_get hm)
      have hgw : g < wr.heap.size := World.block_lt_of_cell? _ _ hd0
      have HOk : Hid (ShOk (shOf (l, r))) := shOk_of hl1 hl2 fun c hc => by
        obtain ⟨_, _, x, _, hx, _, h1, h2⟩ := hi1.at hlp
        rw [hx] at hc
        cases hc
        exact ⟨h1, h2⟩
      obtain ⟨W1, hW1⟩ : ∃ X, X = wr.alloc (.cells #[.slice a1 l.length c1, .slice a2 r.length c2] 37) := ⟨_, rfl⟩
      have B1 : Hid (Below wr.heap.size wr W1) := by rw [hW1]; exact below_alloc _
      have q0 : W1.cell? ⟨wr.heap.size, 0, none⟩ = some (.slice a1 l.length c1) := by rw [hW1]; exact cell_new rfl
      have q1 : W1.cell? ⟨wr.heap.size, 1, none⟩ = some (.slice a2 r.length c2) := by rw [hW1]; exact cell_new rfl
      clear hm hi1 hi2 hrx hbl
      go_wp2_with fail
      rw [← hW1]
      clear hW1
      refine (shapeOf_any _ _ l r W1 (HI1.out.kp (Kp.of_below B1.out)) (HI2.out.kp (Kp.of_below B1.out)) hlp).mono ?_
      rintro e w2 ⟨rfl, hb2⟩
      have p0 := (Kp.of_below hb2).cell _ _ q0
      have p1 := (Kp.of_below hb2).cell _ _ q1
      obtain ⟨K, hK⟩ : ∃ K, K = shOf (l, r) := ⟨_, rfl⟩
      have HK := hid hK
      rw [← hK] at HOk ⊢
      clear hK
      obtain ⟨x0, x1, x2⟩ := K
      rw [show shV (x0, x1, x2) = .agg #[.int .i64 x0, .int .i64 x1, .int .i64 x2] from rfl]
      obtain ⟨W3, hW3⟩ : ∃ X, X = w2.alloc (.cells #[.int .i64 x0, .int .i64 x1, .int .i64 x2] 62) := ⟨_, rfl⟩
      have B3 : Hid (Below wr.heap.size wr W3) := by rw [hW3]; exact below_step (below_step B1.out hb2) (below_alloc _)
      have hG3 := HG.out.later B3.out
      have hlk := hG3.map.look HOk.out
      change (Instr.lookup _ _ (.agg #[.int .i64 x0, .int .i64 x1, .int .i64 x2]) _).run _ _ = _ at hlk
      have HG3 := hid hG3
      have y0 : W3.cell? ⟨w2.heap.size, 0, none⟩ = some (.int .i64 x0) := by rw [hW3]; exact cell_new rfl
      have y1 : W3.cell? ⟨w2.heap.size, 1, none⟩ = some (.int .i64 x1) := by rw [hW3]; exact cell_new rfl
      have y2 : W3.cell? ⟨w2.heap.size, 2, none⟩ = some (.int .i64 x2) := by rw [hW3]; exact cell_new rfl
      have r0 : W3.cell? ⟨wr.heap.size, 0, none⟩ = some (.slice a1 l.length c1) := by rw [hW3]; exact cell_old p0
      have r1 : W3.cell? ⟨wr.heap.size, 1, none⟩ = some (.slice a2 r.length c2) := by rw [hW3]; exact cell_old p1
      have hO3 := hG3.of HOk.out
      obtain ⟨gv, hgv⟩ : ∃ v, v = (f (x0, x1, x2)).getD (.slice none 0 0) := ⟨_, rfl⟩
      rw [← hgv] at hlk hO3
      have HO3 := hid hO3
      have HGv := hid hgv
      rw [hW3] at hlk
      have hgw2 : wr.heap.size < w2.heap.size := World.block_lt_of_cell? _ _ p0
      clear hG3 hb2 q0 q1 hO3 hgv
      go_wp2_with fail
      rw [← hW3]
      rw [← hW3] at hlk
      have hHk : W3.heap[w2.heap.size]? = some (.cells #[.int .i64 x0, .int .i64 x1, .int .i64 x2] 62) := by rw [hW3]; exact heap_alloc_new _ _
      have HShp : Hid (Shp W3 w2.heap.size 62 3) := ⟨_, hHk, rfl⟩
      have CW3 := hid (below_step CB.out B3.out)
      have hgl : (groupF B (x0, x1, x2)).length ≤ 64 := by
        unfold groupF
        exact Nat.le_trans (List.length_filter_le _ _) hBl
      clear hW3 hlk hHk
      refine (indexPair_any _ _ _ gv w.heap.size wr.heap.size sig (l, r) (groupF B (x0, x1, x2)) W3 (HS.out.kp (Kp.of_below CW3.out)) (HI1.out.kp (Kp.of_below B3.out)) (HI2.out.kp (Kp.of_below B3.out)) (HO3.out.ru (below_step HB.out B3.out)) (HT.out.below CW3.out) ((Kp.of_below (below_step HB.out B3.out)).cell _ _ HCs.out) r0 r1 hl1 hl2).mono ?_
      rintro e w4 ⟨hb4, ⟨rfl, hnone⟩ | ⟨i, y, rfl, hiy, hvy, hno⟩⟩
      · have CW4 := hid (below_step CW3.out hb4)
        have HF : Hid (R = false) := by
          have h9 := pair_none (sig := sig) (x := (l, r)) (B := B) HRx.out (by rw [← HK.out]; exact hnone)
          show _ = _
          rw [HPr.out, HDr.out]
          show (if B.any (vrP sig (l, r)) then _ else _) = false
          rw [h9]
          rfl
        clear hnone hb4 y0 y1 y2 r0 r1
        go_wp2
        go_ret
        exact ⟨ret1b HF.out.symm, CW4.out⟩
      · rw [HK.out] at hiy hno
        obtain ⟨hany, hgrp⟩ := pair_some (sig := sig) (x := (l, r)) (B := B) HRx.out hiy hvy hno
        have HF : Hid (R = pairB sig (a.drop (k + 1)) (B.eraseP (vrP sig (l, r)))) := by
          show _ = _
          rw [HPr.out, HDr.out]
          show (if B.any (vrP sig (l, r)) then _ else _) = _
          rw [hany]
          rfl
        rw [← HK.out] at hiy hno hgrp
        have HGrp := hid hgrp
        have hil := (List.getElem?_eq_some_iff.1 hiy).1
        have bd : Below w4.heap.size w4 w4.drew := (Below.refl _ _).drew
        have b34 := below_step hb4 bd
        have hG4 := HG3.out.later b34
        have hlk4 := hG4.map.look HOk.out
        change (Instr.lookup _ _ (.agg #[.int .i64 x0, .int .i64 x1, .int .i64 x2]) _).run _ _ = _ at hlk4
        rw [← HGv.out] at hlk4
        have hO4 := HO3.out.later b34
        have z0 := (Kp.of_below hb4).cell _ _ y0
        have z1 := (Kp.of_below hb4).cell _ _ y1
        have z2 := (Kp.of_below hb4).cell _ _ y2
        have hS : (fun w' : World => w'.cell? ⟨w2.heap.size, 0, none⟩ = some (.int .i64 x0) ∧ w'.cell? ⟨w2.heap.size, 1, none⟩ = some (.int .i64 x1) ∧ w'.cell? ⟨w2.heap.size, 2, none⟩ = some (.int .i64 x2)) w4.drew := ⟨z0, z1, z2⟩
        have hwi : IntKind.i64.wrap ((i : Int) + 1) = ((i + 1 : Nat) : Int) := by rw [IntWalk.i64_in _ ⟨by omega, by omega⟩]; omega
        have hdi : decide ((i : Int) < 0) = false := by simp
        have HShp4 : Hid (Shp w4.drew w2.heap.size 62 3) := (Spl.below (b := 0) (t := 0) b34).shape _ _ _ HShp.out
        have CB4 := hid (below_step HB.out (below_step B3.out b34))
        have HG4 := hid hG4
        have HO4 := hid hO4
        have HLk := hid hlk4
        clear hany hgrp hiy hvy hno bd b34 hG4 hlk4 hO4 y0 y1 y2 r0 r1 HG3 HO3 hb4
        go_wp2_with fail
        refine wp_region_held_drew (S := fun w' : World => w'.cell? ⟨w2.heap.size, 0, none⟩ = some (.int .i64 x0) ∧ w'.cell? ⟨w2.heap.size, 1, none⟩ = some (.int .i64 x1) ∧ w'.cell? ⟨w2.heap.size, 2, none⟩ = some (.int .i64 x2)) (by kernel_rfl) hS (fun _ => ?_)
        obtain ⟨W5, hW5⟩ : ∃ X, X = w4.drew := ⟨_, rfl⟩
        rw [← hW5] at hS HShp4 CB4 HG4 HO4 HLk ⊢
        clear hW5
        refine wpAnyH_take (i := 0) (v := .map (some mb)) rfl (by kernel_rfl) (by kernel_rfl) (by kernel_rfl) (fun _ _ _ h => h) (Or.inl ⟨by rfl, fun w' h => by go_simp⟩) hS ?_
        simp only [Act.put, List.setIfInBounds_toArray]
        refine wpAnyH_take (i := 1) (v := .agg #[.int .i64 x0, .int .i64 x1, .int .i64 x2]) rfl (by kernel_rfl) (by kernel_rfl) (by kernel_rfl) (fun _ _ _ h => h) (Or.inl ⟨by rfl, fun w' h => by obtain ⟨h0, h1, h2⟩ := h; go_simp⟩) hS ?_
        simp only [Act.put]
        refine wpAnyH_take (i := 2) (v := .map (some mb)) rfl (by kernel_rfl) (by kernel_rfl) (by kernel_rfl) (fun _ _ _ h => h) (Or.inl ⟨by rfl, fun w' h => by go_simp⟩) hS ?_
        simp only [Act.put]
        refine wpAnyH_take (i := 3) (v := .agg #[.int .i64 x0, .int .i64 x1, .int .i64 x2]) rfl (by kernel_rfl) (by kernel_rfl) (by kernel_rfl) (fun _ _ _ h => h) (Or.inl ⟨by rfl, fun w' h => by obtain ⟨h0, h1, h2⟩ := h; go_simp⟩) hS ?_
        simp only [Act.put]
        refine wpAnyH_take (i := 5) (v := .int .i64 (i : Int)) rfl (by kernel_rfl) (by kernel_rfl) (by kernel_rfl) (fun _ _ _ h => h) (Or.inl ⟨by rfl, fun w' h => by go_simp⟩) hS ?_
        simp only [Act.put]
        refine wpAnyH_take (i := 6) (v := .int .i64 (i : Int)) rfl (by kernel_rfl) (by kernel_rfl) (by kernel_rfl) (fun _ _ _ h => h) (Or.inl ⟨by rfl, fun w' h => by go_simp⟩) hS ?_
        simp only [Act.put]
        refine wpAnyH_take (i := 7) (v := .int .i64 ((i + 1 : Nat) : Int)) rfl (by kernel_rfl) (by kernel_rfl) (by kernel_rfl) (fun _ _ _ h => h) (Or.inl ⟨by rfl, fun w' h => by go_simp⟩) hS ?_
        simp only [Act.put]
        refine wpAnyH_ready (rs := [4]) (by kernel_rfl) (by simp) (AllReadyH.cons rfl (fun K hK => ?_) AllReadyH.nil)
        have hlk4 := HLk.out
        go_simp
        refine hK.out _ _ hS (fun _ => ?_)
        clear hK K hlk4
        refine wpAnyH_ready (rs := [8]) (by kernel_rfl) (by simp) (AllReadyH.cons rfl (fun K hK => ?_) AllReadyH.nil)
        go_simp
        refine (delete_any gv (groupF B (x0, x1, x2)) W0 W5 i (i + 1) HO4.out rfl hil hgl).mono ?_
        rintro e W6 ⟨v6, rfl, hO6, hg6, hv6⟩
        have hfar := HO4.out.far HShp4.out (by decide)
        have hS6 : (fun w' : World => w'.cell? ⟨w2.heap.size, 0, none⟩ = some (.int .i64 x0) ∧ w'.cell? ⟨w2.heap.size, 1, none⟩ = some (.int .i64 x1) ∧ w'.cell? ⟨w2.heap.size, 2, none⟩ = some (.int .i64 x2)) W6 := by
          have hb6 : W6.heap[w2.heap.size]? = W5.heap[w2.heap.size]? := by
            refine hg6.block _ (World.block_lt_of_cell? _ _ hS.1) (fun e9 => ?_)
            rcases hfar with h | h
            · rw [h] at e9; cases e9
            · exact h e9.symm
          exact ⟨(cell_block hb6 _).trans hS.1, (cell_block hb6 _).trans hS.2.1, (cell_block hb6 _).trans hS.2.2⟩
        have hmb6 : W6.heap[mb]? = W5.heap[mb]? := by
          obtain ⟨es, clock, hb⟩ := HG4.out.map.isMap
          refine hg6.block _ (Array.getElem?_eq_some_iff.1 hb).1 (fun e9 => ?_)
          rcases HO4.out.notMap hb with h | h
          · rw [h] at e9; cases e9
          · exact h e9.symm
        obtain ⟨W7, hru, hM7, hg7⟩ := (HG4.out.map.of_block hmb6).store HOk.out (by unfold maxLen; omega) v6
        obtain ⟨es6, clock6, hb6⟩ := (HG4.out.map.of_block hmb6).isMap
        have hS7 : (fun w' : World => w'.cell? ⟨w2.heap.size, 0, none⟩ = some (.int .i64 x0) ∧ w'.cell? ⟨w2.heap.size, 1, none⟩ = some (.int .i64 x1) ∧ w'.cell? ⟨w2.heap.size, 2, none⟩ = some (.int .i64 x2)) W7 :=
          ⟨(Kp.of_map hg7 hb6).cell _ _ hS6.1, (Kp.of_map hg7 hb6).cell _ _ hS6.2.1, (Kp.of_map hg7 hb6).cell _ _ hS6.2.2⟩
        have HG7 : Hid (GS W0 W7 mb (n + 1) (groupF (B.eraseP (vrP sig (l, r)))) (setF f (x0, x1, x2) v6)) := by
          have h9 := HG4.out.put HOk.out (wc := W7) (fun g h1 h2 h3 => ?_) (hO6.kept hg7 (hO6.notMap hb6)) (.inl (hv6.trans (by rw [HGv.out]))) hM7
          · show GS _ _ _ _ _ _
            rw [HGrp.out]
            exact h9
          · rw [hg7.block g (Nat.lt_of_lt_of_le h1 hg6.size) (by simpa using h2), hg6.block g h1 (by rw [HGv.out]; exact h3)]
        have CB6 := CB4.out.grown hg6 CB4.out.size (fun j hj => (HO4.out.blk_lt hj).2.1)
        have CB7 := hid (CB6.grown hg7 CB6.size (fun j hj => by cases hj; exact HG4.out.low))
        have HSub7 : Hid (∀ z ∈ B.eraseP (vrP sig (l, r)), z ∈ b) := fun z hz => HSub.out z (erase_sub hz)
        have HBl7 : Hid ((B.eraseP (vrP sig (l, r))).length ≤ 64) := Nat.le_trans List.eraseP_sublist.length_le hBl
        change (Instr.mapUpdate _ (.map (some mb)) (.agg #[.int .i64 x0, .int .i64 x1, .int .i64 x2]) v6).run _ _ = _ at hru
        have HRu := hid hru
        have HS7 := hid hS7
        clear CB6 hfar hO6 hg6 hv6 hmb6 hru hM7 hg7 hb6 hS7 hS HO4 HG4 HLk CB4
        go_wp2_with fail
        refine hK.out _ _ hS6 (fun _ => ?_)
        clear hK K
        refine wpAnyH_ready (rs := [9]) (by kernel_rfl) (by simp) (AllReadyH.cons rfl (fun K hK => ?_) AllReadyH.nil)
        have hru := HRu.out
        go_simp
        refine hK.out _ _ HS7.out (fun _ => ?_)
        clear hK K hru HRu
        refine wpAnyH_done (by kernel_rfl) ?_ _
        clear hS6 HS7
        go_wp2
        go_roundw
        case rel => exact ⟨k + 1, n + 1, setF f (x0, x1, x2) v6, B.eraseP (vrP sig (l, r)), by omega, by omega, HBl7.out, by go_num, HF.out, HSub7.out, HG7.out, CB7.out⟩
        case measure => simp only [intOf]; omega
    · have HF : Hid (R = true) := by
        show _ = _
        rw [HPr.out, List.drop_of_length_le (by omega)]
        rfl
      clear hbl
      go_wp2
      go_ret
      exact ⟨ret1b HF.out.symm, CB.out⟩

end Go.Proofs.YtfeeafkfjngemaaDoor

/- slices.Equal at symbols walked. -/
namespace Go.Proofs.YtfeeafkfjngemaaDoor
open Go.RowKit Go.Maps Go.BigFrame

theorem bytes_eq {a b : ByteArray} (h : a.toList = b.toList) : a = b := by
  rw [ByteArray.toList_eq, ByteArray.toList_eq] at h
  exact ByteArray.ext (Array.toList_inj.1 h)

set_option maxHeartbeats 800000 in
theorem equalS_any (v u : Value) (xs ys : List Sy) (w : World) (h : Sg w v xs) (h' : Sg w u ys) :
    Calls Tryd.prog 22 #[v, u] w fun e w' => e = .returned (.bool (decide (xs = ys))) ∧ ∃ n, w' = w.drewN n := by
  obtain ⟨ao, cap, rfl, hao, hca, hcl⟩ := Row.flat h
  obtain ⟨bo, cap', rfl, hbo, hcb, hcl'⟩ := Row.flat h'
  unfold maxLen at hca hcb
  clear h h'
  by_cases hl : xs.length = ys.length
  · have hle : ((xs.length : Int) != ys.length) = false := by simp; omega
    have HL := hid hl
    clear hl
    go_enter Tryd.func22, Tryd.ntmps22
    go_wp2
    go_loopw [13] (fun i wr => ∃ k : Nat, k ≤ xs.length ∧ i = .int .i64 k ∧ xs.take k = ys.take k ∧ ∃ n, wr = w.drewN n) (fun i _ => xs.length - (intOf i).toNat)
    case atStart => exact ⟨0, Nat.zero_le _, rfl, rfl, 0, rfl⟩
    case round =>
      obtain ⟨k, hk, rfl, ht, n, rfl⟩ := hrel
      have HT : Hid (xs.take k = ys.take k) := ht
      clear ht
      by_cases hlt : k < xs.length
      · obtain ⟨g, off, ⟨x1, x2⟩, rfl, hx1, _, _, _, c0, c1⟩ := hcl k hlt
        have hlt' : k < ys.length := by have := HL.out; omega
        obtain ⟨g', off', ⟨y1, y2⟩, rfl, hy1, _, _, _, d0, d1⟩ := hcl' k hlt'
        have HX : Hid (xs[k]? = some (x1, x2)) := hx1
        have HY : Hid (ys[k]? = some (y1, y2)) := hy1
        clear hx1 hy1 hcl hcl'
        simp only at c0 c1 d0 d1
        have HNe : ((x1, x2) ≠ (y1, y2)) → (false = decide (xs = ys)) := fun hxy => by
          rw [eq_comm, decide_eq_false_iff_not]
          rintro rfl
          have h9 := HX.out.symm.trans HY.out
          exact hxy (by simpa using h9)
        by_cases hs : x1.toList = y1.toList
        · by_cases hi : x2 = y2
          · obtain rfl := bytes_eq hs
            subst hi
            clear hs
            go_wp2
            go_quiet (fail)
            go_wp2
            go_roundw
            case rel => exact ⟨k + 1, by omega, by go_num, by rw [take_get HX.out, take_get HY.out, HT.out], _, rfl⟩
            case measure => simp [intOf]; omega
          · have HF : Hid (false = decide (xs = ys)) := HNe (fun h => hi (by cases h; rfl))
            clear HNe
            go_wp2
            go_quiet (fail)
            go_wp2
            go_ret
            exact ⟨ret1b HF.out, _, World.drewN_drewN _ _ _⟩
        · have HF : Hid (false = decide (xs = ys)) := HNe (fun h => hs (by cases h; rfl))
          clear HNe
          go_wp2
          go_quiet (fail)
          go_wp2
          go_ret
          exact ⟨ret1b HF.out, _, World.drewN_drewN _ _ _⟩
      · have hk' : k = xs.length := by omega
        go_wp2
        go_ret
        refine ⟨ret1b ?_, n, rfl⟩
        have h9 := HT.out
        have h8 := HL.out
        rw [List.take_of_length_le (by omega), List.take_of_length_le (by omega)] at h9
        simp [h9]
  · have hle : ((xs.length : Int) != ys.length) = true := by rw [bne_iff_ne]; omega
    go_enter Tryd.func22, Tryd.ntmps22
    go_wp2
    go_ret
    exact ⟨ret1b (by rw [eq_comm, decide_eq_false_iff_not]; rintro rfl; exact hl rfl), 0, rfl⟩

end Go.Proofs.YtfeeafkfjngemaaDoor

/- Same of package system walked. -/
namespace Go.Proofs.YtfeeafkfjngemaaDoor
open Go.RowKit Go.Maps Go.BigFrame

def sameB (s : List Sy) (a : List Rl) (t : List Sy) (b : List Rl) : Bool := sysB s a && sysB t b && decide (s = t) && decide (a.length = b.length) && pairB s a b

set_option maxRecDepth 100000 in
set_option maxHeartbeats 1600000 in
theorem sysSame_any (sv av tv bv : Value) (s t : List Sy) (a b : List Rl) (w : World) (hs : Sg w sv s) (ha : RU w av a) (ht : Sg w tv t) (hb : RU w bv b) (hT : Tabs w) :
    Calls Tryd.prog 13 #[.agg #[sv, av], .agg #[tv, bv]] w fun e w' => e = .returned (.bool (sameB s a t b)) ∧ Below w.heap.size w w' := by
  obtain ⟨so, sc, rfl, hso, hsc, _⟩ := Row.flat hs
  obtain ⟨ao, ac, rfl, hao, hac, _⟩ := Row.flat ha
  obtain ⟨to2, tc, rfl, hto, htc, _⟩ := Row.flat ht
  obtain ⟨bo, bc, rfl, hbo, hbc, _⟩ := Row.flat hb
  unfold maxLen at hsc hac htc hbc
  have HS := hid hs
  have HA := hid ha
  have HS2 := hid ht
  have HA2 := hid hb
  have HT := hid hT
  clear hs ha ht hb hT
  obtain ⟨w0, hw0⟩ : ∃ X, X = (w.alloc (.cells #[.slice so s.length sc, .slice ao a.length ac] 25)).alloc (.cells #[.slice to2 t.length tc, .slice bo b.length bc] 25) := ⟨_, rfl⟩
  have C0 : Hid (Below w.heap.size w w0) := by rw [hw0]; exact below_step (below_alloc _) (below_alloc _)
  have HC : Hid (∀ W, Below w0.heap.size w0 W → (W.cell? ⟨w.heap.size, 0, none⟩ = some (.slice so s.length sc) ∧ W.cell? ⟨w.heap.size, 1, none⟩ = some (.slice ao a.length ac)) ∧ W.cell? ⟨w.heap.size + 1, 0, none⟩ = some (.slice to2 t.length tc) ∧ W.cell? ⟨w.heap.size + 1, 1, none⟩ = some (.slice bo b.length bc)) := fun W hW => by
    have hk := Kp.of_below hW
    rw [hw0] at hk
    have e9 : w.heap.size + 1 = (w.alloc (.cells #[.slice so s.length sc, .slice ao a.length ac] 25)).heap.size := (World.size_alloc _ _).symm
    rw [e9]
    exact ⟨⟨hk.cell _ _ (cell_old (cell_new rfl)), hk.cell _ _ (cell_old (cell_new rfl))⟩, hk.cell _ _ (cell_new rfl), hk.cell _ _ (cell_new rfl)⟩
  obtain ⟨R, hR⟩ : ∃ R, R = sameB s a t b := ⟨_, rfl⟩
  have HR := hid hR
  rw [← hR]
  clear hR
  obtain ⟨⟨x0, x1⟩, y0, y1⟩ := HC.out w0 (Below.refl _ _)
  go_enter Tryd.func13, Tryd.ntmps13
  go_wp2_with fail
  rw [← hw0]
  clear hw0
  refine (isRight_any _ _ s a w0 (HS.out.kp (Kp.of_below C0.out)) (HA.out.kp (Kp.of_below C0.out)) (HT.out.below C0.out)).mono ?_
  rintro e w1 ⟨rfl, hb1⟩
  have C1 := hid (below_step C0.out hb1)
  have D1 := hid hb1
  clear hb1 x0 x1 y0 y1
  cases ha : sysB s a with
  | false =>
    have HF : Hid (R = false) := by show _ = _; rw [HR.out]; unfold sameB; rw [ha]; rfl
    clear ha
    go_wp2
    go_ret
    exact ⟨ret1b HF.out.symm, C1.out⟩
  | true =>
    have HA1 := hid ha
    clear ha
    obtain ⟨⟨x0, x1⟩, y0, y1⟩ := HC.out w1 D1.out
    go_wp2_with fail
    refine (isRight_any _ _ t b w1 (HS2.out.kp (Kp.of_below C1.out)) (HA2.out.kp (Kp.of_below C1.out)) (HT.out.below C1.out)).mono ?_
    rintro e w2 ⟨rfl, hb2⟩
    have C2 := hid (below_step C1.out hb2)
    have D2 := hid (below_step D1.out hb2)
    clear hb2 x0 x1 y0 y1
    cases hb : sysB t b with
    | false =>
      have HF : Hid (R = false) := by show _ = _; rw [HR.out]; unfold sameB; rw [hb, Bool.and_false]; rfl
      clear hb
      go_wp2
      go_ret
      exact ⟨ret1b HF.out.symm, C2.out⟩
    | true =>
      have HB1 := hid hb
      clear hb
      obtain ⟨⟨x0, x1⟩, y0, y1⟩ := HC.out w2 D2.out
      go_wp2_with fail
      refine (equalS_any _ _ s t w2 (HS.out.kp (Kp.of_below C2.out)) (HS2.out.kp (Kp.of_below C2.out))).mono ?_
      rintro e w3 ⟨rfl, n3, rfl⟩
      have hb3 : Below w2.heap.size w2 (w2.drewN n3) := below_drewN (Below.refl _ _) _
      obtain ⟨w3, hw3⟩ : ∃ X, X = w2.drewN n3 := ⟨_, rfl⟩
      rw [← hw3] at hb3 ⊢
      clear hw3
      have C3 := hid (below_step C2.out hb3)
      have D3 := hid (below_step D2.out hb3)
      clear hb3 x0 x1 y0 y1
      by_cases hst : s = t
      · have hst' : decide (s = t) = true := by simp [hst]
        rw [hst']
        obtain ⟨⟨x0, x1⟩, y0, y1⟩ := HC.out w3 D3.out
        have HSt := hid hst
        clear hst hst'
        by_cases hll : a.length = b.length
        · have hlb : ((a.length : Int) == b.length) = true := by simp [hll]
          have HR3 : Hid (R = pairB s a b) := by
            show _ = _
            rw [HR.out]
            unfold sameB
            rw [HA1.out, HB1.out, decide_eq_true HSt.out, decide_eq_true hll]
            rfl
          have HLl := hid hll
          clear hll
          go_wp2_with fail
          obtain ⟨h1, h2⟩ := sys_right HA1.out
          obtain ⟨h3, h4⟩ := sys_right HB1.out
          rw [← HSt.out] at h4
          refine (arePaired_any _ _ _ s a b w3 (HS.out.kp (Kp.of_below C3.out)) (HA.out.kp (Kp.of_below C3.out)) (HA2.out.kp (Kp.of_below C3.out)) (HT.out.below C3.out) h2 h4 (ahead_parts h1).2.2.2 (ahead_parts h3).2.2.2).mono ?_
          rintro e w4 ⟨rfl, hb4⟩
          have C4 := hid (below_step C3.out hb4)
          clear hb4 x0 x1 y0 y1 h1 h2 h3 h4
          rw [← HR3.out]
          go_wp2
          go_ret
          exact ⟨rfl, C4.out⟩
        · have hlb : ((a.length : Int) == b.length) = false := by simp; omega
          have HF : Hid (R = false) := by
            show _ = _
            rw [HR.out]
            unfold sameB
            rw [decide_eq_false hll, Bool.and_false]
            rfl
          clear hll
          go_wp2
          go_ret
          exact ⟨ret1b HF.out.symm, C3.out⟩
      · have hst' : decide (s = t) = false := by simp [hst]
        have HF : Hid (R = false) := by
          show _ = _
          rw [HR.out]
          unfold sameB
          rw [hst', Bool.and_false]
          rfl
        rw [hst']
        clear hst hst'
        go_wp2
        go_ret
        exact ⟨ret1b HF.out.symm, C3.out⟩

end Go.Proofs.YtfeeafkfjngemaaDoor

/- Pairing rules and counting variants, plainly. -/
namespace Go.Proofs.YtfeeafkfjngemaaDoor
open Go.RowKit Go.Maps Go.BigFrame

/-- How many of a row's rules are variants of x. -/
def vrN (sig : List Sy) (x : Rl) (L : List Rl) : Nat := L.countP (vrP sig x)

/-- Of each rule of a as many in b as in a. -/
def cntB (sig : List Sy) (a b : List Rl) : Bool := a.all fun x => decide (vrN sig x a = vrN sig x b)

theorem vr_refl {sig : List Sy} {x : Rl} (h : ruleE sig x = 0) : vrP sig x x = true := by
  obtain ⟨h1, h2, _⟩ := rule_parts h
  unfold vrP termsB
  simp [h1, h2]

theorem vr_iff {sig : List Sy} {x y : Rl} (hx : ruleE sig x = 0) (hy : ruleE sig y = 0) : vrP sig x y = true ↔ canL [x.1, x.2] = canL [y.1, y.2] := by
  obtain ⟨h1, h2, _⟩ := rule_parts hx
  obtain ⟨h3, h4, _⟩ := rule_parts hy
  unfold vrP termsB
  simp [h1, h2, h3, h4]

theorem vrN_of {sig : List Sy} {x : Rl} (hx : ruleE sig x = 0) : ∀ (L : List Rl), (∀ y ∈ L, ruleE sig y = 0) → vrN sig x L = (L.map fun y => canL [y.1, y.2]).count (canL [x.1, x.2])
  | [], _ => rfl
  | y :: L, h => by
    have ih := vrN_of hx L (fun z hz => h z (by simp [hz]))
    unfold vrN at ih ⊢
    rw [List.countP_cons, List.map_cons, List.count_cons, ih]
    have h9 := vr_iff hx (h y (by simp))
    by_cases e : canL [x.1, x.2] = canL [y.1, y.2]
    · rw [if_pos (h9.2 e), e]; simp
    · rw [if_neg (fun h => e (h9.1 h))]
      have : ¬ canL [y.1, y.2] = canL [x.1, x.2] := fun h => e h.symm
      simp [this]

theorem erase_map {α β : Type} [DecidableEq β] [BEq β] [LawfulBEq β] (g : α → β) (x : β) (P : α → Bool) : ∀ (B : List α), (∀ y ∈ B, P y = decide (g y = x)) → (B.eraseP P).map g = (B.map g).erase x
  | [], _ => rfl
  | y :: B, h => by
    have ih := erase_map g x P B (fun z hz => h z (by simp [hz]))
    have h9 := h y (by simp)
    by_cases e : g y = x
    · rw [List.eraseP_cons_of_pos (by rw [h9]; simp [e]), List.map_cons, e, List.erase_cons_head]
    · rw [List.eraseP_cons_of_neg (by rw [h9]; simp [e]), List.map_cons, List.map_cons, List.erase_cons_tail (by simpa using e), ih]

theorem perm_of_counts {α : Type} [BEq α] [LawfulBEq α] : ∀ (A B : List α), (∀ x ∈ A, A.count x ≤ B.count x) → A.length = B.length → A.Perm B
  | [], B, _, hl => by rw [List.length_eq_zero_iff.1 hl.symm]
  | x :: A, B, h, hl => by
    have hx := h x (by simp)
    rw [List.count_cons_self] at hx
    have hm : x ∈ B := List.count_pos_iff.1 (by omega)
    refine List.cons_perm_iff_perm_erase.2 ⟨hm, perm_of_counts A _ (fun y hy => ?_) ?_⟩
    · by_cases e : y = x
      · subst e
        rw [List.count_erase_self]
        omega
      · have h9 := h y (by simp [hy])
        rw [List.count_cons_of_ne (fun e' => e e'.symm)] at h9
        rw [List.count_erase_of_ne e]
        exact h9
    · rw [List.length_erase_of_mem hm]
      simp only [List.length_cons] at hl
      omega

/-- Pairing is a permutation of the canonical forms. -/
theorem pair_perm {sig : List Sy} : ∀ (a b : List Rl), (∀ x ∈ a, ruleE sig x = 0) → (∀ x ∈ b, ruleE sig x = 0) → a.length = b.length →
    (pairB sig a b = true ↔ (a.map fun y => canL [y.1, y.2]).Perm (b.map fun y => canL [y.1, y.2]))
  | [], b, _, _, hl => by
    have hb : b = [] := List.length_eq_zero_iff.1 hl.symm
    subst hb
    exact ⟨fun _ => List.Perm.refl _, fun _ => rfl⟩
  | x :: a, b, ha, hb, hl => by
    have hx := ha x (by simp)
    have hv : ∀ y ∈ b, vrP sig x y = decide (canL [y.1, y.2] = canL [x.1, x.2]) := fun y hy => by
      have h9 := vr_iff hx (hb y hy)
      cases h8 : vrP sig x y with
      | true => simp [h9.1 h8]
      | false =>
        have : ¬ canL [y.1, y.2] = canL [x.1, x.2] := fun e => by rw [h9.2 e.symm] at h8; cases h8
        simp [this]
    have hmem : b.any (vrP sig x) = true ↔ canL [x.1, x.2] ∈ b.map fun y => canL [y.1, y.2] := by
      rw [List.any_eq_true, List.mem_map]
      constructor
      · rintro ⟨y, hy, h⟩
        exact ⟨y, hy, by have := hv y hy; rw [h] at this; simpa using this.symm⟩
      · rintro ⟨y, hy, h⟩
        exact ⟨y, hy, by rw [hv y hy]; simp [h]⟩
    show (if b.any (vrP sig x) then pairB sig a (b.eraseP (vrP sig x)) else false) = true ↔ _
    by_cases hm : canL [x.1, x.2] ∈ b.map fun y => canL [y.1, y.2]
    · rw [if_pos (hmem.2 hm)]
      have he := erase_map (fun y : Rl => canL [y.1, y.2]) (canL [x.1, x.2]) (vrP sig x) b hv
      have hlen : a.length = (b.eraseP (vrP sig x)).length := by
        obtain ⟨y, hy, h⟩ := List.any_eq_true.1 (hmem.2 hm)
        have h9 := List.length_eraseP_of_mem hy h
        simp only [List.length_cons] at hl
        omega
      rw [pair_perm a _ (fun z hz => ha z (by simp [hz])) (fun z hz => hb z (erase_sub hz)) hlen, he]
      exact (List.cons_perm_iff_perm_erase.trans ⟨fun h => h.2, fun h => ⟨hm, h⟩⟩).symm
    · rw [if_neg (fun h => hm (hmem.1 h))]
      refine ⟨fun h => ?_, fun h => absurd (List.Perm.subset h (by simp)) hm⟩
      cases h

/-- Of rules as many on both sides, paired just if counted alike. -/
theorem pair_count {sig : List Sy} {a b : List Rl} (ha : ∀ x ∈ a, ruleE sig x = 0) (hb : ∀ x ∈ b, ruleE sig x = 0) (hl : a.length = b.length) : pairB sig a b = cntB sig a b := by
  rw [Bool.eq_iff_iff, pair_perm a b ha hb hl]
  unfold cntB
  rw [List.all_eq_true]
  constructor
  · intro h x hx
    rw [decide_eq_true_eq, vrN_of (ha x hx) a ha, vrN_of (ha x hx) b hb]
    exact h.count_eq _
  · intro h
    refine perm_of_counts _ _ (fun c hc => ?_) (by simp [hl])
    obtain ⟨x, hx, rfl⟩ := List.mem_map.1 hc
    have h9 := h x hx
    rw [decide_eq_true_eq, vrN_of (ha x hx) a ha, vrN_of (ha x hx) b hb] at h9
    exact Nat.le_of_eq h9

end Go.Proofs.YtfeeafkfjngemaaDoor
