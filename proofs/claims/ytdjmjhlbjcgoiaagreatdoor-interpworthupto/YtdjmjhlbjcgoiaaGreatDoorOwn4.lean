/- Texts of the proof, one behind the other. -/
import Derived.Test.YtdjmjhlbjcgoiaaGreatDoorOwn3
import Derived.Test.YtdjmjhlbjcgoiaaGreatDoorOwn1
import Derived.Sort.WalkB12
import Derived.Lib.SlicesMore
import Derived.Lib.Walk
import Derived.Deep.LoopGhost
import Derived.Deep.DeepAppendRoom
import Derived.Maps.Own
import Derived.Maps.OwnOps
import Derived.Maps.OwnSet
import Derived.Lib.ValidLaws
import Derived.Stop.FmtQuoteTie
import Derived.Laws.Runes
/- Package interp's Strict. -/
namespace Go.Proofs.YtdjmjhlbjcgoiaaGreatDoor
open Go.RowKit Go.Maps Go.BigFrame

theorem inGo_ok {sig : List Sy} : ∀ {l : List Ip} {f : Nat → Bool}, inGo sig f l = 0 → ∀ x ∈ l, 0 ≤ x.1 ∧ x.1 < (sig.length : Int) ∧ checkE x.2 (arI sig x.1) ≠ 20 ∧ checkE x.2 (arI sig x.1) ≠ 2
  | [], _, _ => fun x hx => by cases hx
  | (c, p) :: r, f, h => by
    rw [inGo] at h
    split at h
    · cases h
    · rename_i h1
      split at h
      · cases h
      · rename_i h2
        split at h
        · cases h
        · rename_i h3
          intro x hx
          rcases List.mem_cons.1 hx with rfl | hx
          · exact ⟨Int.not_lt.1 (fun e => h1 (Or.inl e)), Int.not_le.1 (fun e => h1 (Or.inr (Or.inl e))), h2, h3⟩
          · exact inGo_ok h x hx

theorem inE_ok {sig : List Sy} {l : List Ip} (h : inE sig l = 0) : sigE sig = 0 ∧ ∀ x ∈ l, 0 ≤ x.1 ∧ x.1 < (sig.length : Int) ∧ checkE x.2 (arI sig x.1) ≠ 20 ∧ checkE x.2 (arI sig x.1) ≠ 2 := by
  unfold inE at h
  split at h
  · rename_i h0
    exact ⟨h0, inGo_ok h⟩
  · rename_i h0
    exact absurd h h0

/-- Whether one interpretation rises with each of its first n arguments. -/
def risB (n : Nat) (p : List Mn) : Bool := (List.range n).all fun v => p.any (alonB v)

/-- Whether all rise with each argument. -/
def allRis (sig : List Sy) (l : List Ip) : Bool := l.all fun x => risB (arI sig x.1).toNat x.2

/-- What Strict tells. -/
def strB (sig : List Sy) (l : List Ip) : Bool := decide (inE sig l = 0) && allRis sig l

theorem risB_no {n v : Nat} {p : List Mn} (hv : v < n) (h : p.any (alonB v) = false) : risB n p = false := by
  unfold risB
  rw [List.all_eq_false]
  exact ⟨v, List.mem_range.2 hv, by simp [h]⟩

theorem risB_yes {n : Nat} {p : List Mn} (h : ∀ v, v < n → p.any (alonB v) = true) : risB n p = true := by
  unfold risB
  rw [List.all_eq_true]
  exact fun v hv => h v (List.mem_range.1 hv)

theorem allRis_no {sig : List Sy} {l : List Ip} {x : Ip} (hx : x ∈ l) (h : risB (arI sig x.1).toNat x.2 = false) : allRis sig l = false := by
  unfold allRis
  rw [List.all_eq_false]
  exact ⟨x, hx, by simp [h]⟩

set_option maxRecDepth 100000 in
set_option maxHeartbeats 3200000 in
theorem strict_any (sv lv : Value) (sig : List Sy) (l : List Ip) (w : World) (hs : Sg w sv sig) (hl : Ins w lv l) (hT : Tabs w) :
    Calls Tryz.prog 13 #[sv, lv] w fun e w' => e = .returned (.bool (strB sig l)) ∧ Below w.heap.size w w' := by
  have HCk := hid (inCheck_any sv lv sig l w hs hl hT)
  obtain ⟨so, sc, rfl, hso, hsc, _⟩ := Row.flat hs
  obtain ⟨lo, lc, rfl, hlo, hlc, _⟩ := Row.flat hl
  unfold maxLen at hsc hlc
  have HS := hid hs
  have HL := hid hl
  clear hs hl hT
  go_enter Tryz.func13, Tryz.ntmps13
  go_wp2_with fail
  refine HCk.out.mono ?_
  rintro e w1 ⟨rfl, hb1⟩
  have B1 := hid hb1
  clear hb1 HCk
  by_cases hE : inE sig l = 0
  · have HR : Hid (strB sig l = allRis sig l) := by show _ = _; unfold strB; rw [decide_eq_true hE, Bool.true_and]
    have HOk := hid (inE_ok hE)
    have HAo : Hid (ArOk sig) := hid (sigE_ok HOk.out.1)
    rw [hE]
    clear hE
    go_wp2
    go_loopw [14] (fun x wr => ∃ k : Nat, k ≤ l.length ∧ x = .int .i64 k ∧ (∀ y ∈ l.take k, risB (arI sig y.1).toNat y.2 = true) ∧ Below w.heap.size w wr) (fun x _ => l.length - (intOf x).toNat)
    case atStart => exact ⟨0, Nat.zero_le _, rfl, fun y hy => by simp at hy, B1.out⟩
    case round =>
      clear B1
      obtain ⟨k, hk, rfl, hall, hbl⟩ := hrel
      have HA := hid hall
      have BL := hid hbl
      clear hall hbl
      by_cases hlt : k < l.length
      · obtain ⟨g, off, c, p, a1, c1, rfl, hm, hc0w, hc1w, hp, hcl, hcu, hp1, hp2⟩ := HL.out.at hlt
        have hmem : (c, p) ∈ l := List.mem_of_getElem? hm
        obtain ⟨ci, hci⟩ := Int.eq_ofNat_of_zero_le (HOk.out.2 _ hmem).1
        have hlt2 := (HOk.out.2 _ hmem).2.1
        simp only at hci hlt2
        subst hci
        have hcs : ci < sig.length := by omega
        obtain ⟨gs, os, sn, ar, rfl, hsm, _, hsa, hal, hau, _⟩ := HS.out.at hcs
        have har := HAo.out _ (List.mem_of_getElem? hsm)
        simp only at har
        obtain ⟨an, rfl⟩ := Int.eq_ofNat_of_zero_le har.1
        have han : an ≤ 1000 := by omega
        have HAr : Hid (arI sig (ci : Int) = (an : Int)) := by show _ = _; unfold arI; rw [Int.toNat_natCast, hsm]
        have HMem := hid hmem
        have HM := hid hm
        have HP := hid hp
        have hc0 := (Kp.of_below BL.out).cell _ _ hc0w
        have hc1 := (Kp.of_below BL.out).cell _ _ hc1w
        have hgw : g < wr.heap.size := World.block_lt_of_cell? _ _ hc0
        obtain ⟨W, hW⟩ : ∃ X, X = wr.alloc (.cells #[.int .i64 (ci : Int), .slice a1 p.length c1] 51) := ⟨_, rfl⟩
        have BW : Hid (Below wr.heap.size wr W) := by rw [hW]; exact below_alloc _
        have y0 : W.cell? ⟨wr.heap.size, 0, none⟩ = some (.int .i64 (ci : Int)) := by rw [hW, cell_of_row _ _ _ _ _ _ (heap_alloc_new _ _)]; rfl
        have Y1 : Hid (W.cell? ⟨wr.heap.size, 1, none⟩ = some (.slice a1 p.length c1)) := by show _ = _; rw [hW, cell_of_row _ _ _ _ _ _ (heap_alloc_new _ _)]; rfl
        have BLW := hid (below_step BL.out BW.out)
        have x2 := (Kp.of_below BLW.out).cell _ _ hsa
        clear hm hp hc0w hc1w hmem hsm hsa har hal hau
        go_upto_region 6 with fail
        rw [← hW]
        clear hW hc0 hc1
        generalize wr.heap.size = gb at y0 Y1 ⊢
        go_wp2
        clear y0 x2
        go_loopw [24] (fun x wr => ∃ j : Nat, j ≤ an ∧ x = .int .i64 j ∧ (∀ v, v < j → p.any (alonB v) = true) ∧ Below W.heap.size W wr) (fun x _ => an - (intOf x).toNat)
        case atStart => exact ⟨0, Nat.zero_le _, rfl, fun v hv => absurd hv (by omega), Below.refl _ _⟩
        case round =>
          obtain ⟨j, hj, rfl, hjs, hbj⟩ := hrel
          have HJ := hid hjs
          have BJ := hid hbj
          clear hjs hbj
          have BJw := hid (below_step BLW.out BJ.out)
          by_cases hja : j < an
          · have y1 := (Kp.of_below BJ.out).cell _ _ Y1.out
            go_wp2_with fail
            refine (risesAlone_any _ p j _ (HP.out.kp (Kp.of_below BJw.out)) (by omega)).mono ?_
            rintro e w5 ⟨rfl, hb5⟩
            have BN := hid (below_step BJ.out hb5)
            have BNw := hid (below_step BJw.out hb5)
            clear hb5 y1
            cases hx : p.any (alonB j) with
            | true =>
              have HJn : Hid (∀ v, v < j + 1 → p.any (alonB v) = true) := fun v hv => by
                rcases Nat.lt_succ_iff_lt_or_eq.1 hv with h | h
                · exact HJ.out v h
                · rw [h]; exact hx
              clear hx
              go_wp2
              go_roundw
              case rel => exact ⟨j + 1, hja, by go_num, HJn.out, BN.out⟩
              case measure => simp [intOf]; omega
            | false =>
              have HF : Hid (strB sig l = false) := by
                show _ = _
                rw [HR.out]
                exact allRis_no HMem.out (risB_no (v := j) (by simp only [HAr.out, Int.toNat_natCast]; exact hja) hx)
              clear hx
              go_wp2
              go_ret
              exact ⟨ret1b HF.out.symm, BNw.out⟩
          · obtain rfl : j = an := by omega
            have HAn : Hid (∀ y ∈ l.take (k + 1), risB (arI sig y.1).toNat y.2 = true) := fun y hy => by
              rw [take_get HM.out] at hy
              rcases List.mem_append.1 hy with h | h
              · exact HA.out y h
              · obtain rfl := List.mem_singleton.1 h
                exact risB_yes (fun v hv => HJ.out v (by simp only [HAr.out, Int.toNat_natCast] at hv; exact hv))
            go_wp2
            go_roundw
            case rel => exact ⟨k + 1, hlt, by go_num, HAn.out, BJw.out⟩
            case measure => simp [intOf]; omega
      · have HF : Hid (strB sig l = true) := by
          show _ = _
          rw [HR.out]
          unfold allRis
          rw [List.all_eq_true]
          intro y hy
          exact HA.out y (by rw [List.take_of_length_le (by omega)]; exact hy)
        go_wp2
        go_ret
        exact ⟨ret1b HF.out.symm, BL.out⟩
  · have HF : Hid (strB sig l = false) := by show _ = _; unfold strB; rw [decide_eq_false hE, Bool.false_and]
    have hne : (inE sig l != 0) = true := by rw [bne_iff_ne]; exact hE
    clear hE
    generalize inE sig l = z at hne ⊢
    go_wp2
    go_ret
    exact ⟨ret1b HF.out.symm, B1.out⟩

end Go.Proofs.YtdjmjhlbjcgoiaaGreatDoor

/- What the document's Check of layer 12 tells, plainly: the same. -/
namespace Go.Proofs.YtdjmjhlbjcgoiaaGreatDoor

/-- The document's Check, one by one; seen are those ahead. -/
def docIn (sig : List Sy) : List Int → List Ip → Int
  | seen, [] => if seen.length = sig.length then 0 else 120
  | seen, (c, p) :: r => if c < 0 ∨ (sig.length : Int) ≤ c then 120 else if c ∈ seen then 120 else if checkE p (arI sig c) = 2 then 2 else if checkE p (arI sig c) ≠ 0 then 121 else docIn sig (c :: seen) r

theorem checkE_three (p : List Mn) (n : Int) (hn : ¬ n < 0) : checkE p n = 0 ∨ checkE p n = 2 ∨ checkE p n = 20 := by
  unfold checkE
  rw [if_neg hn]
  split
  · simp
  · split <;> simp

theorem lack_len {seen : List Int} {n : Nat} (hd : seen.Nodup) (hr : ∀ x ∈ seen, 0 ≤ x ∧ x < (n : Int)) : lackB (fun i => decide ((i : Int) ∈ seen)) n = false ↔ seen.length = n := by
  have hl : seen.length ≤ n := by
    have h := List.Nodup.length_le_of_subset (l₂ := (List.range n).map (fun i : Nat => (i : Int))) hd (fun x hx => by
      obtain ⟨i, rfl⟩ := Int.eq_ofNat_of_zero_le (hr x hx).1
      exact List.mem_map.2 ⟨i, List.mem_range.2 (by have := (hr _ hx).2; omega), rfl⟩)
    simpa using h
  constructor
  · intro h
    have hn : ((List.range n).map (fun i : Nat => (i : Int))).Nodup := by
      rw [List.nodup_iff_pairwise_ne, List.pairwise_map]
      exact List.Pairwise.imp (fun {a b} h e => h (by omega)) (List.nodup_iff_pairwise_ne.1 List.nodup_range)
    have h2 := List.Nodup.length_le_of_subset (l₂ := seen) hn (fun x hx => by
      obtain ⟨i, hi, rfl⟩ := List.mem_map.1 hx
      simp only [lackB, List.any_eq_false, List.mem_range] at h
      have := h i (List.mem_range.1 hi)
      simpa using this)
    simp at h2
    omega
  · intro h
    refine lackB_no (fun i hi => ?_)
    by_cases hm : (i : Int) ∈ seen
    · simp [hm]
    · exfalso
      have h3 := List.Nodup.length_le_of_subset (l₁ := (i : Int) :: seen) (l₂ := (List.range n).map (fun i : Nat => (i : Int))) (List.nodup_cons.2 ⟨hm, hd⟩) (fun x hx => by
        rcases List.mem_cons.1 hx with rfl | hx
        · exact List.mem_map.2 ⟨i, List.mem_range.2 hi, rfl⟩
        · obtain ⟨j, rfl⟩ := Int.eq_ofNat_of_zero_le (hr x hx).1
          exact List.mem_map.2 ⟨j, List.mem_range.2 (by have := (hr _ hx).2; omega), rfl⟩)
      simp at h3
      omega

theorem gvn_seen {seen : List Int} {c : Nat} : gvn (fun i : Nat => decide ((i : Int) ∈ seen)) c = fun i : Nat => decide ((i : Int) ∈ ((c : Int) :: seen)) := by
  funext i
  unfold gvn
  by_cases h : i = c
  · subst h; simp
  · have : ¬ (i : Int) = (c : Int) := by omega
    simp [h, this]

theorem arI_ok {sig : List Sy} (ha : ArOk sig) (c : Int) : ¬ arI sig c < 0 := by
  unfold arI
  split
  · omega
  · rename_i s h
    have := (ha s (List.mem_of_getElem? h)).1
    omega

theorem docIn_in {sig : List Sy} (ha : ArOk sig) : ∀ {l : List Ip} {seen : List Int}, seen.Nodup → (∀ x ∈ seen, 0 ≤ x ∧ x < (sig.length : Int)) → docIn sig seen l = inGo sig (fun i => decide ((i : Int) ∈ seen)) l
  | [], seen, hd, hr => by
    rw [docIn, inGo]
    by_cases h : seen.length = sig.length
    · rw [if_pos h, (lack_len hd hr).2 h]; rfl
    · have h2 : lackB (fun i => decide ((i : Int) ∈ seen)) sig.length = true := by
        rw [← Bool.not_eq_false]
        exact fun e => h ((lack_len hd hr).1 e)
      rw [if_neg h, h2]; rfl
  | (c, p) :: r, seen, hd, hr => by
    rw [docIn, inGo]
    by_cases h1 : c < 0 ∨ (sig.length : Int) ≤ c
    · rw [if_pos h1, if_pos (by rcases h1 with h | h; exact Or.inl h; exact Or.inr (Or.inl h))]
    · have h0 : 0 ≤ c := Int.not_lt.1 (fun e => h1 (Or.inl e))
      have hb : c < (sig.length : Int) := Int.not_le.1 (fun e => h1 (Or.inr e))
      obtain ⟨ci, rfl⟩ := Int.eq_ofNat_of_zero_le h0
      rw [if_neg h1]
      by_cases hm : (ci : Int) ∈ seen
      · rw [if_pos hm, if_pos (Or.inr (Or.inr (by simp [hm])))]
      · have h4 : ¬ ((ci : Int) < 0 ∨ (sig.length : Int) ≤ (ci : Int) ∨ (fun i : Nat => decide ((i : Int) ∈ seen)) (ci : Int).toNat = true) := by
          rintro (h | h | h)
          · exact h1 (Or.inl h)
          · exact h1 (Or.inr h)
          · exact hm (by simpa using h)
        rw [if_neg hm, if_neg h4, Int.toNat_natCast, gvn_seen]
        rw [docIn_in ha (seen := (ci : Int) :: seen) (List.nodup_cons.2 ⟨hm, hd⟩) (fun x hx => by
          rcases List.mem_cons.1 hx with rfl | hx
          · exact ⟨h0, hb⟩
          · exact hr x hx)]
        rcases checkE_three p (arI sig (ci : Int)) (arI_ok ha _) with h | h | h <;> rw [h] <;> rfl

end Go.Proofs.YtdjmjhlbjcgoiaaGreatDoor

/- Rows of trees: cloned, turned round. -/
namespace Go.Proofs.YtdjmjhlbjcgoiaaGreatDoor
open Go.RowKit Go.Maps

section
variable {P : Program} {w w' : World} {ops : Array Oper} {rest : List Oper} {o : Oper} {a : Act} {Q : Exit → Act → World → Prop}

end

theorem drawn_below1 (w : World) : Below w.heap.size w w.drew := (Below.refl _ _).drew

end Go.Proofs.YtdjmjhlbjcgoiaaGreatDoor

/- Trees in memory; apply. -/
namespace Go.Proofs.YtdjmjhlbjcgoiaaGreatDoor
open Go.RowKit Go.Maps

/-- A term as a tree, without its symbols. -/
inductive Tr where
  | var : Tr
  | app : List Tr → Tr

mutual
def Tr.size : Tr → Nat
  | .var => 1
  | .app ts => 1 + sizes ts
def sizes : List Tr → Nat
  | [] => 0
  | t :: ts => t.size + sizes ts
end

theorem sizes_app : ∀ (a b : List Tr), sizes (a ++ b) = sizes a + sizes b
  | [], b => by simp [sizes]
  | t :: a, b => by simp only [List.cons_append, sizes, sizes_app a b]; omega

end Go.Proofs.YtdjmjhlbjcgoiaaGreatDoor

/- A map from numbers to values in memory; a row joined to one's own. -/
namespace Go.Proofs.YtdjmjhlbjcgoiaaGreatDoor
open Go.RowKit Go.Maps

theorem join_ints (ty : TypeId) {w : World} {base : Nat} {x u : Value} {xs es : List Int} (ho : OwI w base x xs) (hs : Is w u es) (hb : base ≤ w.heap.size) (hl : (xs.length + es.length) * 8 ≤ 140737488355328) :
    ∃ v' w', (Builtin.append_ #[30, 30] ty #[x, u]).run Tryz.prog w = .ok v' w' ∧ OwI w' base v' (xs ++ es) ∧ w.grownBy w' x.ownBlock := by
  obtain ⟨i0, hi, hz0, hz1, hz2⟩ := info_parts info_int
  have hZ : ZI es := fun k x hk => by
    obtain ⟨ao, cap, rfl, _, _, hx⟩ := Row.flat hs
    obtain ⟨_, _, y, _, hy, h1, h2, _⟩ := hx k (List.getElem?_eq_some_iff.1 hk).1
    rw [hk] at hy
    cases hy
    exact ⟨h1, h2⟩
  have hZ2 : ZI (xs ++ es) := fun k y hk => by
    by_cases hkl : k < xs.length
    · rw [List.getElem?_append_left hkl] at hk
      exact ho.1 k y hk
    · rw [List.getElem?_append_right (by omega)] at hk
      exact hZ _ y hk
  obtain ⟨ao, cap, rfl, hc, hm, hx⟩ := hs
  by_cases h0 : es.length = 0
  · obtain rfl : es = [] := List.eq_nil_of_length_eq_zero h0
    obtain ⟨bo, bc, rfl, hbc, _⟩ := ho.shape
    refine ⟨_, w, run_append_nothing w 30 30 ty 3 i0 under_ints hi _ xs.length bc hbc _ ?_, by rw [List.append_nil]; exact ho, World.grownBy.refl _ _⟩
    cases ao with
    | none => exact Src.ofNil w under_ints _
    | some a => exact Src.ofSlice w under_ints a 0 _ [] (by simp) (fun j u hj => (by simp at hj)) (fun u hu => (by simp at hu))
  · obtain ⟨g', off, rfl, hg, hcell⟩ := hx (by omega)
    obtain ⟨v', w', hr, h2, h3, _, _⟩ := run_append_own_at (P := Tryz.prog) w base 30 ty 3 i0 _ 1 8 under_ints hi hz0 hz1 hz2 rfl (by decide) _ xs.length (xs.map I64) ho.2 ⟨g', off, none⟩ es.length cap (es.map I64) (by simp) (fun j u hj => by
      rw [List.getElem?_map] at hj
      cases hk : es[j]? with
      | none => rw [hk] at hj; simp at hj
      | some x =>
        rw [hk] at hj
        simp at hj
        subst hj
        rw [Addr.add_lit]
        have := (hcell j x hk).2.2
        rw [Nat.mul_one] at this
        exact this) (fun u hu => by obtain ⟨x, _, rfl⟩ := List.mem_map.1 hu; rfl) (by unfold maxLen; omega) (by omega) hb
    refine ⟨v', w', hr, ⟨hZ2, ?_⟩, h3⟩
    rw [List.length_append, List.map_append]
    exact h2

/-- An element, read as the value that it is. -/
def RV (v : Value) : Option (DataW Value × List MemPlace) := some (.held v, [])

/-- Block b of w is the map L. -/
def MapV (w : World) (b : Nat) (L : List (Int × Value)) : Prop :=
  ∃ D : DataW Value, w.ownsMap Tryz.prog 3 RV b L.length D ∧ Maps.size D = L.length ∧
    (∀ k v, L.lookup k = some v → ∀ z, D.atKey (.int .i64 k) z = .held v) ∧ (∀ k, Maps.has D (.int .i64 k) = (L.lookup k).isSome)

theorem MapV.isMap {w : World} {b : Nat} {L : List (Int × Value)} (h : MapV w b L) : ∃ es clock, w.heap[b]? = some (.map es clock) := by
  obtain ⟨D, ⟨es, clock, hb, _⟩, _⟩ := h
  exact ⟨es, clock, hb⟩

theorem MapV.kept {w w' : World} {b : Nat} {L : List (Int × Value)} {row : Option Nat} (h : MapV w b L) (hg : w.grownBy w' row) (hr : row ≠ some b) : MapV w' b L := by
  obtain ⟨D, h1, h2, h3, h4⟩ := h
  exact ⟨D, h1.kept hg (fun e => hr e.symm), h2, h3, h4⟩

theorem MapV.later {w w' : World} {b : Nat} {L : List (Int × Value)} (h : MapV w b L) (hb : Below w.heap.size w w') : MapV w' b L :=
  h.kept (grown_of_below hb none) (by simp)

theorem MapV.made (w : World) : MapV (w.alloc (.map #[] 0)) w.heap.size [] :=
  ⟨DataW.map [], World.ownsMap_made w _ _ _, rfl, fun k v hk => (by cases hk), fun k => (by simp [Maps.has])⟩

theorem MapV.store {w : World} {b : Nat} {L : List (Int × Value)} (h : MapV w b L) {t e : TypeId} (ht : Tryz.prog.underlying t = some (.map 3 e)) {k : Int} (h1 : -9223372036854775808 ≤ k) (h2 : k ≤ 9223372036854775807) (hn : L.lookup k = none) (hL : L.length < maxLen) (v : Value) :
    ∃ w', (Instr.mapUpdate t (.map (some b)) (.int .i64 k) v).run Tryz.prog w = .ok () w' ∧ MapV w' b ((k, v) :: L) ∧ w.grownBy w' (some b) := by
  obtain ⟨D, hD, hs, ha, hh⟩ := h
  have hT := hD.tidy set_keyed
  have hK : WideAt.IsKeyLit (.int .i64 k) := set_keyed.key (key_int h1 h2)
  obtain ⟨w', hrun, r1, r2⟩ := hD.store set_keyed ht hL (key_int h1 h2) (val := v) (d := .held v) (ps := []) rfl
  refine ⟨w', hrun, ⟨D.put (.int .i64 k) (.held v), r1, ?_, fun k' v' hl z => ?_, fun k' => ?_⟩, r2.grown⟩
  · rw [size_put hT, hs, hh, hn]
    rfl
  · rw [List.lookup_cons] at hl
    by_cases e : k' = k
    · subst e
      simp at hl
      subst hl
      exact atKey_put_same hT.isMap hK _ z
    · rw [show (k' == k) = false by simpa using e] at hl
      rw [atKey_put_other (by simpa using e)]
      exact ha k' v' hl z
  · rw [List.lookup_cons]
    by_cases e : k' = k
    · subst e
      rw [has_put_same hT.isMap hK]
      simp
    · rw [has_put_other (by simpa using e), hh, show (k' == k) = false by simpa using e]

end Go.Proofs.YtdjmjhlbjcgoiaaGreatDoor

/- What lay and Apply answer. -/
namespace Go.Proofs.YtdjmjhlbjcgoiaaGreatDoor
open Go.RowKit Go.Maps

theorem nilI (w : World) (base : Nat) : OwI w base (.slice none 0 0) [] := ⟨fun k x hk => (by simp at hk), World.ownsRow_nil _ _ _ _⟩

section
variable {P : Program} {w w' : World} {ops : Array Oper} {rest : List Oper} {o : Oper} {a : Act} {Q : Exit → Act → World → Prop}

theorem wpList_append_run (hg : o.guard = none) (s x : Operand) (t : TypeId) (ho : o.op = .call { callee := .builtin .append, args := #[s, x], argTypes := #[t, t] }) (v u : Value) {v' : Value} (hs : a.eval s = v) (hx : a.eval x = u)
    (hr : (Builtin.append_ #[t, t] o.type #[v, u]).run P w = .ok v' w') (h : wpList P ops Q rest (a.put o.dst v') w') : wpList P ops Q (o :: rest) a w := by
  refine wpList_plain hg fun K' hK' => ?_
  unfold Oper.wp
  simp [execOp, ho, resolve, invoke, builtin, hs, hx, hr, Result.andThen]
  exact hK' _ _ h

end

end Go.Proofs.YtdjmjhlbjcgoiaaGreatDoor

/- The document's names, plainly; its letters, names and marked names walked. -/
namespace Go.Proofs.YtdjmjhlbjcgoiaaGreatDoor
open Go.RowKit Go.Maps Go.Lib

/-- What the runes of a text come to, one behind the other. -/
def encGo : Nat → List UInt8 → List UInt8
  | 0, _ => []
  | n + 1, l => if l = [] then [] else (Utf8.encode ((decodeL l).1 : Int)).data.toList ++ encGo n (l.drop (decodeL l).2)

theorem enc_bytes (r : Nat) : (Utf8.encode (r : Int)).data.toList = encodeRune (r : Int) := by
  have h := Go.Extern.FmtText.encode_eq r
  unfold encodeRune
  rw [← h]
  have e : (fun x : Int => x.toNat.toUInt8) ∘ (fun x : UInt8 => (x.toNat : Int)) = id := by funext x; simp
  unfold Go.Extern.FmtText.nums
  rw [List.map_map, e, List.map_id]

theorem encGo_valid : ∀ (n : Nat) (l : List UInt8), l.length ≤ n → (encGo n l = l ↔ validD l = true)
  | 0, l, h => by
    obtain rfl : l = [] := List.eq_nil_of_length_eq_zero (by omega)
    exact ⟨fun _ => rfl, fun _ => rfl⟩
  | n + 1, l, h => by
    by_cases h0 : l = []
    · subst h0
      exact ⟨fun _ => rfl, fun _ => by simp [encGo]⟩
    · have hw := decodeL_width l
      have hl : 0 < l.length := List.length_pos_iff.2 h0
      rw [validD_step l h0, encGo, if_neg h0]
      by_cases hb : (decodeL l).1 = 65533 ∧ (decodeL l).2 = 1
      · rw [if_pos hb]
        refine ⟨fun e => ?_, fun e => by cases e⟩
        exfalso
        rw [hb.1, show (Utf8.encode ((65533 : Nat) : Int)).data.toList = [239, 191, 189] by rfl] at e
        have e2 := hb.2
        rw [← e, decodeL_N] at e2
        simp [decodeN] at e2
      · rw [if_neg hb, enc_bytes, encode_decode l h0 hb]
        rw [← encGo_valid n (l.drop (decodeL l).2) (by rw [List.length_drop]; omega)]
        refine ⟨fun e => ?_, fun e => ?_⟩
        · refine (List.append_right_inj (l.take (decodeL l).2)).1 ?_
          rw [e, List.take_append_drop]
        · rw [e, List.take_append_drop]

/-- The bytes behind the first of a rune. -/
theorem rune_bytes (s : ByteArray) (pos j : Nat) (h1 : 1 ≤ j) (h2 : j < (Utf8.decode s pos).2) : 128 ≤ (s.data.toList.getD (pos + j) 0).toNat := by
  rw [decode_N] at h2
  rcases decodeN_shape (s.data.toList.length - pos) (s.data.toList.getD pos 0).toNat (s.data.toList.getD (pos + 1) 0).toNat (s.data.toList.getD (pos + 2) 0).toNat (s.data.toList.getD (pos + 3) 0).toNat with ⟨c, e⟩ | ⟨c1, c2, c3, cv, e⟩ | ⟨c1, c2, c3, c4, cv, cs, e⟩ | ⟨c1, c2, c3, c4, c5, cv, cw, e⟩ | e
  · rw [e] at h2; simp only at h2; omega
  · rw [e] at h2; simp only at h2
    obtain rfl : j = 1 := by omega
    omega
  · rw [e] at h2; simp only at h2
    have hj : j = 1 ∨ j = 2 := by omega
    rcases hj with rfl | rfl <;> omega
  · rw [e] at h2; simp only at h2
    have hj : j = 1 ∨ j = 2 ∨ j = 3 := by omega
    rcases hj with rfl | rfl | rfl <;> omega
  · rw [e] at h2; simp only at h2; omega

/-- A text that ends in a mark is no name. -/
theorem nm_hash (s : ByteArray) (hl : s.data.toList.getD (s.size - 1) 0 = 35) : ∀ (b pos : Nat), pos < s.size → s.size ≤ pos + b → nmGo s b pos = false
  | 0, pos, h1, h2 => by omega
  | b + 1, pos, h1, h2 => by
    rw [nmGo, if_pos h1]
    have hw := Lib.width_pos s pos
    by_cases h3 : pos + (Utf8.decode s pos).2 < s.size
    · rw [nm_hash s hl b _ h3 (by omega), Bool.and_false]
    · have hp : pos = s.size - 1 := by
        by_cases h4 : pos = s.size - 1
        · exact h4
        · exfalso
          have := rune_bytes s pos (s.size - 1 - pos) (by omega) (by omega)
          rw [show pos + (s.size - 1 - pos) = s.size - 1 by omega, hl] at this
          simp at this
      have hd : (Utf8.decode s pos).1 = 35 := by
        rw [decode_N, hp, hl]
        simp [decodeN]
      rw [hd]
      simp [letB, folB]

/-- A text with one sign less. -/
def init1 (s : ByteArray) : ByteArray := s.extract 0 (s.size - 1)
def lastB (s : ByteArray) : UInt8 := s.data.toList.getD (s.size - 1) 0
def markB (s : ByteArray) : Bool := decide (0 < s.size) && (decide (lastB s = 35) && nameB (validD (init1 s).data.toList) (init1 s))

theorem bare_hash (s : ByteArray) (h0 : 0 < s.size) (h : lastB s = 35) : bare s = init1 s := by
  have hl : s.data.toList.length = s.size := (size_eq s).symm
  have hx : s.data.toList.drop (s.size - 1) = [35] := by
    unfold lastB at h
    rw [List.drop_eq_getElem_cons (by omega), List.drop_of_length_le (by omega)]
    rw [List.getD_eq_getElem?_getD, List.getElem?_eq_getElem (by omega), Option.getD_some] at h
    rw [h]
  have hs : hasSuffix s.data.toList "#".toUTF8.data.toList = true := by
    show hasSuffix s.data.toList [35] = true
    unfold hasSuffix
    rw [List.isSuffixOf_iff_suffix]
    exact ⟨s.data.toList.take (s.size - 1), by rw [← hx, List.take_append_drop]⟩
  unfold bare init1 trimSuffix
  rw [if_pos hs]
  apply ByteArray.ext
  apply Array.ext'
  show s.data.toList.take (s.data.toList.length - 1) = (s.extract 0 (s.size - 1)).data.toList
  rw [ByteArray.data_extract, Array.toList_extract, hl]
  simp

theorem bare_plain (s : ByteArray) (h : ¬ (0 < s.size ∧ lastB s = 35)) : bare s = s := by
  have hl : s.data.toList.length = s.size := (size_eq s).symm
  have hs : ¬ hasSuffix s.data.toList "#".toUTF8.data.toList = true := by
    show ¬ hasSuffix s.data.toList [35] = true
    unfold hasSuffix
    rw [List.isSuffixOf_iff_suffix]
    rintro ⟨l, e⟩
    have hn := congrArg List.length e
    simp only [List.length_append, List.length_cons, List.length_nil] at hn
    refine h ⟨by omega, ?_⟩
    unfold lastB
    rw [← e, show s.size - 1 = l.length by omega]
    simp
  unfold bare trimSuffix
  rw [if_neg hs]

/-- A symbol's name is a name, or a marked one. -/
theorem sym_ref (s : ByteArray) : symB s = (nameB (validD s.data.toList) s || markB s) := by
  unfold symB markB
  by_cases h : 0 < s.size ∧ lastB s = 35
  · have hn : nameB (validD s.data.toList) s = false := by
      unfold nameB
      rw [nm_hash s h.2 s.size 0 h.1 (by omega)]
      simp
    rw [hn, bare_hash s h.1 h.2, decide_eq_true h.1, decide_eq_true h.2]
    simp
  · rw [bare_plain s h]
    by_cases h0 : 0 < s.size
    · rw [decide_eq_false (fun h1 => h ⟨h0, h1⟩)]
      simp
    · rw [decide_eq_false h0]
      simp
set_option maxRecDepth 100000 in
theorem refLetter_any (r : Int) (w : World) : Calls Tryz.prog 145 #[.int .i32 r] w fun e w' => e = .returned (.bool (letB r)) ∧ w' = w := by
  obtain ⟨B, hB⟩ : ∃ B, B = letB r := ⟨_, rfl⟩
  rw [← hB]
  have HB : Hid (B = letB r) := hB
  clear hB
  go_enter Tryz.func145, Tryz.ntmps145
  by_cases h1 : 97 ≤ r
  · by_cases h2 : r ≤ 122
    · have HF : Hid (B = true) := by show _ = _; rw [HB.out]; unfold letB; simp [h1, h2]
      clear HB
      go_wp2
      go_ret
      exact ⟨ret1b HF.out.symm, rfl⟩
    · have HF : Hid (B = decide (128 ≤ r)) := by show _ = _; rw [HB.out]; unfold letB; rw [decide_eq_false h2, decide_eq_false (show ¬ r ≤ 90 by omega)]; simp
      clear HB
      have h3 : 65 ≤ r := by omega
      have h4 : ¬ r ≤ 90 := by omega
      go_wp2
      go_ret
      exact ⟨ret1b HF.out.symm, rfl⟩
  · by_cases h3 : 65 ≤ r
    · by_cases h4 : r ≤ 90
      · have HF : Hid (B = true) := by show _ = _; rw [HB.out]; unfold letB; simp [h3, h4]
        clear HB
        go_wp2
        go_ret
        exact ⟨ret1b HF.out.symm, rfl⟩
      · have HF : Hid (B = decide (128 ≤ r)) := by show _ = _; rw [HB.out]; unfold letB; rw [decide_eq_false h1, decide_eq_false h4]; simp
        clear HB
        go_wp2
        go_ret
        exact ⟨ret1b HF.out.symm, rfl⟩
    · have HF : Hid (B = decide (128 ≤ r)) := by show _ = _; rw [HB.out]; unfold letB; rw [decide_eq_false h1, decide_eq_false h3]; simp
      clear HB
      go_wp2
      go_ret
      exact ⟨ret1b HF.out.symm, rfl⟩

def morB (r : Int) : Bool := letB r || folB r

set_option maxRecDepth 100000 in
theorem refMore_any (r : Int) (w : World) : Calls Tryz.prog 146 #[.int .i32 r] w fun e w' => e = .returned (.bool (morB r)) ∧ w' = w := by
  obtain ⟨B, hB⟩ : ∃ B, B = morB r := ⟨_, rfl⟩
  rw [← hB]
  have HB : Hid (B = morB r) := hB
  clear hB
  go_enter Tryz.func146, Tryz.ntmps146
  go_wp2_with fail
  refine (refLetter_any r w).mono ?_
  rintro e w9 ⟨rfl, hw9⟩
  have hw8 := hw9.symm
  subst hw8
  clear hw9
  cases hL : letB r
  · have HF : Hid (B = folB r) := by show _ = _; rw [HB.out]; unfold morB; rw [hL]; rfl
    clear HB hL
    by_cases h1 : 48 ≤ r
    · by_cases h2 : r ≤ 57
      · have HG : Hid (B = true) := by show _ = _; rw [HF.out]; unfold folB; simp [h1, h2]
        clear HF
        go_wp2
        go_ret
        exact ⟨ret1b HG.out.symm, rfl⟩
      · by_cases h3 : r = 95
        · have HG : Hid (B = true) := by show _ = _; rw [HF.out]; unfold folB; simp [h3]
          have h3b : (r == 95) = true := by rw [beq_iff_eq]; exact h3
          clear HF
          go_wp2
          go_ret
          exact ⟨ret1b HG.out.symm, rfl⟩
        · have HG : Hid (B = decide (r = 39)) := by show _ = _; rw [HF.out]; unfold folB; rw [decide_eq_false h2, decide_eq_false h3]; simp
          have h3b : (r == 95) = false := by rw [beq_eq_false_iff_ne]; exact h3
          clear HF
          go_wp2
          go_ret
          exact ⟨ret1b (by rw [HG.out, decide_eq_false (show ¬ r ≤ 57 by omega)]; rfl), rfl⟩
    · by_cases h3 : r = 95
      · omega
      · have HG : Hid (B = decide (r = 39)) := by show _ = _; rw [HF.out]; unfold folB; rw [decide_eq_false h1, decide_eq_false h3]; simp
        have h3b : (r == 95) = false := by rw [beq_eq_false_iff_ne]; exact h3
        clear HF
        go_wp2
        go_ret
        exact ⟨ret1b (by rw [HG.out]; rfl), rfl⟩
  · have HF : Hid (B = true) := by show _ = _; rw [HB.out]; unfold morB; rw [hL]; rfl
    clear HB hL
    go_wp2
    go_ret
    exact ⟨ret1b HF.out.symm, rfl⟩

end Go.Proofs.YtdjmjhlbjcgoiaaGreatDoor

/- The document's names walked. -/
namespace Go.Proofs.YtdjmjhlbjcgoiaaGreatDoor
open Go.RowKit Go.Maps Go.Lib

theorem encGo_nil (n : Nat) : encGo n [] = [] := by cases n <;> simp [encGo]

theorem encGo_more (s : ByteArray) (b pos : Nat) (h : pos < s.size) : encGo (b + 1) (s.data.toList.drop pos) = (Utf8.encode ((Utf8.decode s pos).1 : Int)).data.toList ++ encGo b (s.data.toList.drop (pos + (Utf8.decode s pos).2)) := by
  have hne : s.data.toList.drop pos ≠ [] := by
    intro h0
    have := congrArg List.length h0
    rw [List.length_drop, ← Go.Lib.size_eq] at this
    simp at this
    omega
  rw [encGo, if_neg hne, decodeL_drop, List.drop_drop]

set_option maxRecDepth 1000000 in
set_option maxHeartbeats 1600000 in
theorem refGood_any (s : ByteArray) (w : World) (hs : s.size ≤ 32) :
    Calls Tryz.prog 144 #[.string s] w fun e w' => e = .returned (.bool (validD s.data.toList)) ∧ Below w.heap.size w w' := by
  go_enter Tryz.func144, Tryz.ntmps144
  go_wp2
  go_loopw [3] (fun x w' => ∃ (pos b : Nat) (acc : ByteArray), x = .string acc ∧ w' = w.iter s pos ∧ encGo s.size s.data.toList = acc.data.toList ++ encGo b (s.data.toList.drop pos) ∧ s.size ≤ pos + b ∧ acc.size ≤ 4 * pos) (fun _ w' => s.size - w'.iterPos w.heap.size)
  case atStart => exact ⟨0, s.size, ByteArray.empty, rfl, rfl, by simp, by omega, by simp⟩
  case round =>
    obtain ⟨pos, b, acc, rfl, rfl, hc, hb, hz⟩ := hrel
    have HC := hid hc
    clear hc
    by_cases hp : pos < s.size
    · have hnx : ∀ ty, (Instr.next (.pointer (some ⟨w.heap.size, 0, none⟩)) true ty).run Tryz.prog (w.iter s pos) = _ := fun ty => run_next_any w s pos ty hp
      have hwd := Lib.width_pos s pos
      obtain ⟨b', rfl⟩ : ∃ b', b = b' + 1 := ⟨b - 1, by omega⟩
      have hstep := encGo_more s b' pos hp
      obtain ⟨r, hr⟩ : ∃ r : Nat, r = (Utf8.decode s pos).1 := ⟨_, rfl⟩
      obtain ⟨wd, hwd2⟩ : ∃ wd : Nat, wd = (Utf8.decode s pos).2 := ⟨_, rfl⟩
      rw [← hr, ← hwd2] at hstep hnx
      rw [← hwd2] at hwd
      obtain ⟨E, hE⟩ : ∃ E : ByteArray, E = Utf8.encode (r : Int) := ⟨_, rfl⟩
      have hcv : ∀ W : World, (convert 21 9 (.int .i32 (r : Int))).run Tryz.prog W = .ok (.string E) W := fun W => by rw [hE]; exact run_convert_int_string W 21 9 .i32 r (by kernel_rfl) (by kernel_rfl)
      rw [← hE] at hstep
      have HS : Hid (encGo s.size s.data.toList = (acc ++ E).data.toList ++ encGo b' (s.data.toList.drop (pos + wd))) := by
        show _ = _
        rw [HC.out, hstep, ByteArray.data_append, Array.toList_append, List.append_assoc]
      have HZ : Hid ((acc ++ E).size ≤ 4 * (pos + wd)) := by
        have h4 := encode_size_le (r : Int)
        rw [← hE] at h4
        show _ ≤ _
        rw [ByteArray.size_append]
        omega
      have HFi : Hid (s.size ≤ pos + wd + b') := by show _ ≤ _; omega
      have hE4 : E.size ≤ 4 := by rw [hE]; exact encode_size_le (r : Int)
      have hAE : ¬ 9223372036854775807 < acc.size + E.size := by omega
      clear hr hwd2 hstep HC hE
      go_wp2
      go_roundw
      case rel => exact ⟨pos + wd, b', _, rfl, rfl, HS.out, HFi.out, HZ.out⟩
      case measure => simp; omega
    · have HE : Hid (∀ B, (acc.data.toList = s.data.toList ↔ B = true) → B = validD s.data.toList) := fun B h => by
        have h1 := HC.out
        rw [List.drop_of_length_le (by rw [← Go.Lib.size_eq]; omega), encGo_nil, List.append_nil] at h1
        have h2 := encGo_valid s.size s.data.toList (by rw [← Go.Lib.size_eq]; omega)
        rw [h1] at h2
        rw [Bool.eq_iff_iff, ← h, h2]
      have hnx : ∀ ty, (Instr.next (.pointer (some ⟨w.heap.size, 0, none⟩)) true ty).run Tryz.prog (w.iter s pos) = _ := fun ty => run_next_end w s pos ty hp
      clear HC
      go_wp2
      go_ret
      refine ⟨ret1b (HE.out _ ?_), below_iter _ _ _⟩
      simp [ByteArray.toList_eq]

set_option maxRecDepth 1000000 in
set_option maxHeartbeats 1600000 in
theorem refName_of (B : Bool) (s : ByteArray) (w : World) (hs : s.size ≤ 9223372036854775807) (hG : s.size ≤ 32 → Calls Tryz.prog 144 #[.string s] w fun e w' => e = .returned (.bool B) ∧ Below w.heap.size w w') :
    Calls Tryz.prog 89 #[.string s] w fun e w' => e = .returned (.bool (nameB B s)) ∧ Below w.heap.size w w' := by
  have HGo := hid hG
  clear hG
  go_enter Tryz.func89, Tryz.ntmps89
  by_cases h0 : s.size = 0
  · have he : s.toList.isEmpty = true := by
      have hl : s.toList.length = 0 := by rw [← h0]; simp [ByteArray.toList_eq]
      rw [List.length_eq_zero_iff.mp hl]; rfl
    have HF : Hid (nameB B s = false) := by show _ = _; unfold nameB; rw [decide_eq_true h0]; rfl
    go_wp2
    go_ret
    exact ⟨ret1b HF.out.symm, Below.refl _ _⟩
  · have he : s.toList.isEmpty = false := by
      cases hl : s.toList with
      | nil => exact absurd (by have := congrArg List.length hl; simpa [ByteArray.toList_eq] using this) h0
      | cons a l => rfl
    by_cases h32 : 32 < s.size
    · have HF : Hid (nameB B s = false) := by show _ = _; unfold nameB; rw [decide_eq_true h32]; simp
      go_wp2
      go_ret
      exact ⟨ret1b HF.out.symm, Below.refl _ _⟩
    · go_wp2_with fail
      refine (HGo.out (by omega)).mono ?_
      rintro e w1 ⟨rfl, hb1⟩
      have HB1 : Hid (Below w.heap.size w w1) := hb1
      clear hb1
      cases B
      · have HF : Hid (nameB false s = false) := by show _ = _; unfold nameB; simp
        go_wp2
        go_ret
        exact ⟨ret1b HF.out.symm, HB1.out⟩
      · have HF : Hid (nameB true s = nmGo s s.size 0) := by show _ = _; unfold nameB; rw [decide_eq_false h0, decide_eq_false h32]; rfl
        go_wp2
        go_loopw [] (fun w' => ∃ (pos b : Nat), w' = w1.iter s pos ∧ nmGo s s.size 0 = nmGo s b pos ∧ s.size ≤ pos + b) (fun w' => s.size - w'.iterPos w1.heap.size)
        case atStart => exact ⟨0, s.size, rfl, rfl, by omega⟩
        case round =>
          obtain ⟨pos, b, rfl, hc, hb⟩ := hrel
          have HC : Hid (nmGo s s.size 0 = nmGo s b pos) := hc
          clear hc
          by_cases hp : pos < s.size
          · have hnx0 := fun ty => run_next_any (P := Tryz.prog) w1 s pos ty hp
            have hwd := Go.Lib.width_pos s pos
            obtain ⟨b', rfl⟩ : ∃ b', b = b' + 1 := ⟨b - 1, by omega⟩
            obtain ⟨r, hr⟩ : ∃ r : Nat, r = (Utf8.decode s pos).1 := ⟨_, rfl⟩
            obtain ⟨wd, hwd2⟩ : ∃ wd : Nat, wd = (Utf8.decode s pos).2 := ⟨_, rfl⟩
            obtain ⟨q, hq⟩ : ∃ q : Nat, q = pos + wd := ⟨_, rfl⟩
            have HS : Hid (nmGo s s.size 0 = ((letB (r : Int) || (!decide (pos = 0) && folB (r : Int))) && nmGo s b' q)) := by
              show _ = _
              rw [HC.out, nmGo, if_pos hp, ← hr, ← hwd2, ← hq]
            rw [← hwd2] at hwd
            have HFi : Hid (s.size ≤ q + b') := by show _ ≤ _; omega
            have hqp : pos < q := by omega
            rw [← hr, ← hwd2, ← hq] at hnx0
            have HNx := hid hnx0
            clear hr hwd2 hq HC hnx0
            by_cases hp0 : pos = 0
            · subst hp0
              have hnx : ∀ ty, (Instr.next (.pointer (some ⟨w1.heap.size, 0, none⟩)) true ty).run Tryz.prog (w1.iter s 0) = _ := HNx.out
              go_wp2_with fail
              refine (refLetter_any (r : Int) _).mono ?_
              rintro e w9 ⟨rfl, hw9⟩
              have hw8 := hw9.symm
              subst hw8
              clear hw9 hnx
              cases hL : letB (r : Int)
              · have HFF : Hid (nameB true s = false) := by show _ = _; rw [HF.out, HS.out, hL]; rfl
                go_wp2
                go_ret
                exact ⟨ret1b HFF.out.symm, below_step HB1.out (below_iter _ _ _)⟩
              · have HN : Hid (nmGo s s.size 0 = nmGo s b' q) := by show _ = _; rw [HS.out, hL]; rfl
                have HMo : Hid (morB (r : Int) = true) := by show _ = _; unfold morB; rw [hL]; rfl
                go_wp2_with fail
                refine (refMore_any (r : Int) _).mono ?_
                rintro e w9 ⟨rfl, hw9⟩
                have hw8 := hw9.symm
                subst hw8
                clear hw9
                rw [HMo.out]
                go_wp2
                go_roundw
                case rel => exact ⟨q, b', rfl, HN.out, HFi.out⟩
                case measure => simp; omega
            · have hp0b : ((pos : Int) == 0) = false := by rw [beq_eq_false_iff_ne]; omega
              have hnx : ∀ ty, (Instr.next (.pointer (some ⟨w1.heap.size, 0, none⟩)) true ty).run Tryz.prog (w1.iter s pos) = _ := HNx.out
              go_wp2_with fail
              refine (refMore_any (r : Int) _).mono ?_
              rintro e w9 ⟨rfl, hw9⟩
              have hw8 := hw9.symm
              subst hw8
              clear hw9 hnx
              have HS2 : Hid (nmGo s s.size 0 = (morB (r : Int) && nmGo s b' q)) := by show _ = _; rw [HS.out, decide_eq_false hp0]; rfl
              cases hM : morB (r : Int)
              · have HFF : Hid (nameB true s = false) := by show _ = _; rw [HF.out, HS2.out, hM]; rfl
                go_wp2
                go_ret
                exact ⟨ret1b HFF.out.symm, below_step HB1.out (below_iter _ _ _)⟩
              · have HN : Hid (nmGo s s.size 0 = nmGo s b' q) := by show _ = _; rw [HS2.out, hM]; rfl
                go_wp2
                go_roundw
                case rel => exact ⟨q, b', rfl, HN.out, HFi.out⟩
                case measure => simp; omega
          · have HFF : Hid (nameB true s = true) := by show _ = _; rw [HF.out, HC.out, nmGo_end s b pos hp]
            have hnx : ∀ ty, (Instr.next (.pointer (some ⟨w1.heap.size, 0, none⟩)) true ty).run Tryz.prog (w1.iter s pos) = _ := fun ty => run_next_end w1 s pos ty hp
            go_wp2
            go_ret
            exact ⟨ret1b HFF.out.symm, below_step HB1.out (below_iter _ _ _)⟩

theorem refName_any (s : ByteArray) (w : World) (hs : s.size ≤ 9223372036854775807) :
    Calls Tryz.prog 89 #[.string s] w fun e w' => e = .returned (.bool (nameB (validD s.data.toList) s)) ∧ Below w.heap.size w w' := refName_of _ s w hs fun h => refGood_any s w h

end Go.Proofs.YtdjmjhlbjcgoiaaGreatDoor

/- The document's marked names walked. -/
namespace Go.Proofs.YtdjmjhlbjcgoiaaGreatDoor
open Go.RowKit Go.Maps Go.Lib

set_option maxRecDepth 100000 in
theorem refMarked_any (s : ByteArray) (w : World) (hs : s.size ≤ 9223372036854775807) :
    Calls Tryz.prog 90 #[.string s] w fun e w' => e = .returned (.bool (markB s)) ∧ Below w.heap.size w w' := by
  go_enter Tryz.func90, Tryz.ntmps90
  by_cases h0 : s.size = 0
  · have HF : Hid (markB s = false) := by show _ = _; unfold markB; rw [decide_eq_false (by omega)]; rfl
    go_wp2
    go_ret
    exact ⟨ret1b HF.out.symm, Below.refl _ _⟩
  · have h1 : 0 < s.size := by omega
    have hlast : lastB s = s[s.size - 1]'(by omega) := by
      unfold lastB
      rw [List.getD_eq_getElem?_getD, List.getElem?_eq_getElem (by rw [← Go.Lib.size_eq]; omega), Option.getD_some]
      rfl
    by_cases hc : lastB s = 35
    · have HF : Hid (markB s = nameB (validD (init1 s).data.toList) (init1 s)) := by show _ = _; unfold markB; rw [decide_eq_true h1, decide_eq_true hc]; rfl
      have hz : ((s[s.size - 1]'(by omega)).toNat : Int) = 35 := by rw [← hlast, hc]; rfl
      have hsz : (init1 s).size ≤ 9223372036854775807 := by unfold init1; rw [ByteArray.size_extract]; omega
      have HC := hid (refName_any (init1 s) w hsz)
      generalize nameB (validD (init1 s).data.toList) (init1 s) = B at HF HC
      rw [show init1 s = s.extract 0 (s.size - 1) from rfl] at HC
      clear hlast hc hsz
      go_wp2_with fail
      refine HC.out.mono ?_
      rintro e w1 ⟨rfl, hb1⟩
      go_wp2
      go_ret
      exact ⟨ret1b HF.out.symm, hb1⟩
    · have HF : Hid (markB s = false) := by show _ = _; unfold markB; rw [decide_eq_false hc]; simp
      have hz : ¬ ((s[s.size - 1]'(by omega)).toNat : Int) = 35 := fun h => hc (by
        rw [hlast]
        apply UInt8.toNat_inj.1
        show _ = 35
        omega)
      clear hlast hc
      go_wp2
      go_ret
      exact ⟨ret1b HF.out.symm, Below.refl _ _⟩

end Go.Proofs.YtdjmjhlbjcgoiaaGreatDoor

/- What the document's CheckSig, Term and Check answer. -/
namespace Go.Proofs.YtdjmjhlbjcgoiaaGreatDoor
open Go.RowKit Go.Maps Go.BigFrame

set_option maxRecDepth 100000 in
set_option maxHeartbeats 1600000 in
theorem refCheckSig_any (sv : Value) (sig : List Sy) (w : World) (hs : Sg w sv sig) :
    Calls Tryz.prog 41 #[sv] w fun e w' => e = .returned (.int .i64 (sigE sig)) ∧ Below w.heap.size w w' := by
  obtain ⟨so, sc, rfl, hso, hsc, _⟩ := Row.flat hs
  unfold maxLen at hsc
  have HS : Hid (Sg w (.slice so sig.length sc) sig) := hs
  clear hs
  go_enter Tryz.func41, Tryz.ntmps41
  by_cases h128 : 128 < sig.length
  · have HR : Hid (sigE sig = 37) := by show _ = _; unfold sigE; rw [if_pos h128]
    go_wp2
    go_ret
    exact ⟨ret1i HR.out.symm, Below.refl _ _⟩
  · have HR : Hid (sigE sig = sigGo sig 0 sig) := by show _ = _; unfold sigE; rw [if_neg h128]
    go_wp2
    go_loopw [3] (fun i wr => ∃ k : Nat, k ≤ sig.length ∧ i = .int .i64 k ∧ sigGo sig 0 sig = sigGo sig k (sig.drop k) ∧ Below w.heap.size w wr) (fun i _ => sig.length - (intOf i).toNat)
    case atStart => exact ⟨0, Nat.zero_le _, rfl, rfl, Below.refl _ _⟩
    case round =>
      obtain ⟨k, hk, rfl, hgo, hbl⟩ := hrel
      have HG : Hid (sigGo sig 0 sig = sigGo sig k (sig.drop k)) := hgo
      clear hgo
      by_cases hlt : k < sig.length
      · have HSr : Hid (Sg wr (.slice so sig.length sc) sig) := HS.out.kp (Kp.of_below hbl)
        obtain ⟨g, off, s, a, rfl, hm, hc0, hc1, ha1, ha2, hs3⟩ := HSr.out.at hlt
        have HM := hid hm
        have HD : Hid (sigE sig = if symB s then (if a < 0 ∨ 8 < a then 35 else if hasB (sig.take k) s then 36 else sigGo sig (k + 1) (sig.drop (k + 1))) else 34) := by
          show _ = _
          rw [HR.out, HG.out, drop_get hm]
          rfl
        clear hm
        obtain ⟨SB, hsy⟩ : ∃ b, symB s = b := ⟨_, rfl⟩
        rw [hsy] at HD
        rw [sym_ref] at hsy
        go_upto_region 6 with fail
        go_cut [29] from 14 to 29 (fun r wx => r = .bool (!SB) ∧ Below wr.heap.size wr wx)
        case first =>
          go_wp2_with fail
          refine (refName_any s wr hs3).mono ?_
          rintro e w1 ⟨rfl, hb1⟩
          have hd0 := (Kp.of_below hb1).cell _ _ hc0
          have HB1 := hid hb1
          clear hb1
          cases hn : nameB (Lib.validD s.data.toList) s
          · go_wp2_with fail
            refine (refMarked_any s w1 hs3).mono ?_
            rintro e w2 ⟨rfl, hb2⟩
            rw [hn, Bool.false_or] at hsy
            rw [hsy]
            have HB2 := hid (below_step HB1.out hb2)
            clear hb2 hsy hn
            go_wp2
            go_meet
            exact ⟨rfl, HB2.out⟩
          · rw [hn, Bool.true_or] at hsy
            subst hsy
            go_wp2
            go_meet
            exact ⟨rfl, HB1.out⟩
        case rest =>
          obtain ⟨rfl, hbx⟩ := hcut
          have he0 := (Kp.of_below hbx).cell _ _ hc0
          have he1 := (Kp.of_below hbx).cell _ _ hc1
          have HBc := hid (below_step hbl hbx)
          have HSc := hid (HSr.out.kp (Kp.of_below hbx))
          clear hbx hc0 hc1 hsy hbl HSr
          cases SB
          · have HF : Hid (sigE sig = 34) := by show _ = _; rw [HD.out]; rfl
            go_wp2
            go_ret
            exact ⟨ret1i HF.out.symm, HBc.out⟩
          by_cases ha0 : a < 0
          · have HF : Hid (sigE sig = 35) := by show _ = _; rw [HD.out, if_pos rfl, if_pos (.inl ha0)]
            go_wp2
            go_ret
            exact ⟨ret1i HF.out.symm, HBc.out⟩
          by_cases ha8 : 8 < a
          · have HF : Hid (sigE sig = 35) := by show _ = _; rw [HD.out, if_pos rfl, if_pos (.inr ha8)]
            go_wp2
            go_ret
            exact ⟨ret1i HF.out.symm, HBc.out⟩
          have HF : Hid (sigE sig = if hasB (sig.take k) s then 36 else sigGo sig (k + 1) (sig.drop (k + 1))) := by show _ = _; rw [HD.out, if_pos rfl, if_neg (by omega)]
          clear HD
          go_wp2
          go_loopw [4] (fun x wy => ∃ j : Nat, j ≤ k ∧ x = .int .i64 j ∧ hasB (sig.take j) s = false ∧ Below wc.heap.size wc wy) (fun x _ => k - (intOf x).toNat)
          case atStart => exact ⟨0, Nat.zero_le _, rfl, rfl, Below.refl _ _⟩
          case round =>
            obtain ⟨j, hj, rfl, hno, hby⟩ := hrel
            have HNo := hid hno
            have HBy := hid (below_step HBc.out hby)
            have hf0 := (Kp.of_below hby).cell _ _ he0
            have hf1 := (Kp.of_below hby).cell _ _ he1
            clear hno
            by_cases hjk : j < k
            · obtain ⟨g', off', s2, a2, hq, hm2, hk0, _, _, _, _⟩ := (HSc.out.kp (Kp.of_below hby)).at (k := j) (by omega)
              obtain ⟨rfl, rfl⟩ : g = g' ∧ off = off' := by simpa using hq
              have hjl : j < sig.length := by omega
              have HA : Hid (hasB (sig.take (j + 1)) s = (hasB (sig.take j) s || sameS s2 s)) := by
                show _ = _
                unfold hasB
                rw [List.take_add_one, hm2, List.any_append]
                simp
              have HAll : Hid (hasB (sig.take (j + 1)) s = true → hasB (sig.take k) s = true) := fun h => by
                unfold hasB at h ⊢
                rw [List.any_eq_true] at h ⊢
                obtain ⟨x, hx, hx2⟩ := h
                exact ⟨x, List.take_subset_take_left _ (by omega) hx, hx2⟩
              clear hm2 hq
              cases hss : sameS s2 s
              · have hss2 : (s2.toList == s.toList) = false := hss
                have HN2 : Hid (hasB (sig.take (j + 1)) s = false) := by show _ = _; rw [HA.out, HNo.out, hss]; rfl
                go_wp2
                go_quiet (fail)
                go_wp2
                go_roundw
                case rel => exact ⟨j + 1, by omega, by go_num, HN2.out, below_drewN hby _⟩
                case measure => simp [intOf]; omega
              · have hss2 : (s2.toList == s.toList) = true := hss
                have HN2 : Hid (sigE sig = 36) := by show _ = _; rw [HF.out, HAll.out (by rw [HA.out, hss, Bool.or_true]), if_pos rfl]
                go_wp2
                go_quiet (fail)
                go_wp2
                go_ret
                exact ⟨ret1i HN2.out.symm, below_drewN HBy.out _⟩
            · have hjk2 : j = k := by omega
              have HN : Hid (sigGo sig 0 sig = sigGo sig (k + 1) (sig.drop (k + 1))) := by
                show _ = _
                rw [← HR.out, HF.out, ← hjk2, HNo.out, hjk2]
                rfl
              go_wp2
              go_roundw
              case rel => exact ⟨k + 1, by omega, by go_num, HN.out, HBy.out⟩
              case measure => simp [intOf]; omega
      · have hke : k = sig.length := by omega
        subst hke
        have HF : Hid (sigE sig = 0) := by show _ = _; rw [HR.out, HG.out, List.drop_length]; rfl
        go_wp2
        go_ret
        exact ⟨ret1i HF.out.symm, hbl⟩

end Go.Proofs.YtdjmjhlbjcgoiaaGreatDoor

/- What the document's Term and Check answer. -/
namespace Go.Proofs.YtdjmjhlbjcgoiaaGreatDoor
open Go.RowKit Go.Maps Go.BigFrame

set_option maxRecDepth 100000 in
set_option maxHeartbeats 1600000 in
theorem refTerm_any (sv v : Value) (sig : List Sy) (t : List Int) (w : World) (hs : Sg w sv sig) (h : Is w v t) (ha : ArOk sig) (hb : t.length * 8 ≤ 140737488351232) :
    Calls Tryz.prog 82 #[sv, v] w fun e w' => e = .returned (.int .i64 (rowE sig t)) ∧ w' = w := by
  obtain ⟨so, sc, rfl, hso, hsc, _⟩ := Row.flat hs
  obtain ⟨ao, cap, rfl, hao, hca, q0⟩ := Row.flat h
  unfold maxLen at hca hsc
  have HS := hid hs
  have HT := hid h
  have HA := hid ha
  clear hs h q0 ha
  go_enter Tryz.func82, Tryz.ntmps82
  go_wp2
  go_loopw [5, 6] (fun x i wr => ∃ (k : Nat) (m : Int), k ≤ t.length ∧ x = .int .i64 m ∧ i = .int .i64 k ∧ ((0 < m ∧ firstT sig 1 0 t = firstT sig m k (t.drop k)) ∨ (m = 0 ∧ rowE sig t = 0)) ∧ m ≤ 1 + 1000 * (k : Int) ∧ wr = w) (fun _ i _ => t.length + 1 - (intOf i).toNat)
  case atStart => exact ⟨0, 1, Nat.zero_le _, rfl, rfl, .inl ⟨by omega, rfl⟩, by omega, rfl⟩
  case round =>
    obtain ⟨k, m, hk, rfl, rfl, hft, hm2, hw⟩ := hrel
    have hw8 := hw.symm
    subst hw8
    clear hw
    rcases hft with ⟨hm0, hft⟩ | ⟨rfl, hft⟩
    · have HF := hid hft
      clear hft
      by_cases hlt : k < t.length
      · have hne : ((k : Int) == (t.length : Int)) = false := by rw [beq_eq_false_iff_ne]; omega
        obtain ⟨g, off, c, rfl, hx1, hx2, hx3, hx4⟩ := HT.out.at hlt
        have HD : Hid (t.drop k = c :: t.drop (k + 1)) := drop_get hx1
        clear hx1
        by_cases hbad : (sig.length : Int) ≤ c ∨ c < -1048576
        · have HR : Hid (rowE sig t = 30) := by show _ = _; unfold rowE; rw [HF.out, HD.out, firstT, codeD_none hbad]; rfl
          rcases hbad with hbad | hbad
          · go_wp2
            go_ret
            exact ⟨ret1i HR.out.symm, rfl⟩
          · by_cases hbad2 : (sig.length : Int) ≤ c
            · omega
            · go_wp2
              go_ret
              exact ⟨ret1i HR.out.symm, rfl⟩
        · have hb1 : ¬ (sig.length : Int) ≤ c := fun h => hbad (.inl h)
          have hb2 : ¬ c < -1048576 := fun h => hbad (.inr h)
          clear hbad
          by_cases hc0 : c < 0
          · have hcd : codeD sig c = some (-1) := codeD_var (by omega) hc0
            have hcn : ¬ 0 ≤ c := by omega
            have hwm : IntKind.i64.wrap (m - 1) = m - 1 := IntWalk.i64_in _ ⟨by omega, by omega⟩
            by_cases hz : m - 1 = 0
            · have hzb : (m - 1 == 0) = true := by rw [beq_iff_eq]; exact hz
              have HR : Hid (rowE sig t = if (k : Int) + 1 < (t.length : Int) then 32 else 0) := by
                have h9 : firstT sig 1 0 t = ((k : Int) + 1, 0) := by
                  rw [HF.out, HD.out, firstT, hcd]
                  simp only
                  rw [if_pos (by omega)]
                show _ = _
                unfold rowE
                rw [h9]
                simp
              clear hcd
              by_cases hmore : k + 1 < t.length
              · have HR2 : Hid (rowE sig t = 32) := by show _ = _; rw [HR.out, if_pos (by omega)]
                go_wp2
                go_ret
                exact ⟨ret1i HR2.out.symm, rfl⟩
              · have HR2 : Hid (rowE sig t = 0) := by show _ = _; rw [HR.out, if_neg (by omega)]
                go_wp2
                go_roundw
                case rel => exact ⟨k + 1, 0, by omega, rfl, by go_num, .inr ⟨rfl, HR2.out⟩, by omega, trivial⟩
                case measure => simp [intOf]; omega
            · have hzb : (m - 1 == 0) = false := by rw [beq_eq_false_iff_ne]; exact hz
              have HN : Hid (firstT sig 1 0 t = firstT sig (m - 1) (k + 1) (t.drop (k + 1))) := by show _ = _; rw [HF.out, HD.out, firstT, hcd]; simp only; rw [if_neg (by omega)]; rfl
              clear hcd
              go_wp2
              go_roundw
              case rel => exact ⟨k + 1, m - 1, by omega, rfl, by go_num, .inl ⟨by omega, HN.out⟩, by omega, trivial⟩
              case measure => simp [intOf]; omega
          · obtain ⟨cn, rfl⟩ : ∃ cn : Nat, c = cn := ⟨c.toNat, by omega⟩
            have hcn : (0 : Int) ≤ (cn : Int) := by omega
            obtain ⟨g2, off2, nm, ar, rfl, hs1, hs2, hs3, hs4, hs5, hs6⟩ := HS.out.at (k := cn) (by omega)
            have har := HA.out _ (List.mem_of_getElem? hs1)
            simp only at har
            have hcd : codeD sig (cn : Int) = some (ar - 1) := codeD_sym hs1
            have hwm1 : IntKind.i64.wrap (m - 1) = m - 1 := IntWalk.i64_in _ ⟨by omega, by omega⟩
            have hwm : IntKind.i64.wrap (m - 1 + ar) = m - 1 + ar := IntWalk.i64_in _ ⟨by omega, by omega⟩
            have hcl : cn < sig.length := by omega
            clear hs1
            by_cases hz : m - 1 + ar = 0
            · have hzb : (m - 1 + ar == 0) = true := by rw [beq_iff_eq]; exact hz
              have HR : Hid (rowE sig t = if (k : Int) + 1 < (t.length : Int) then 32 else 0) := by
                have h9 : firstT sig 1 0 t = ((k : Int) + 1, 0) := by
                  rw [HF.out, HD.out, firstT, hcd]
                  simp only
                  rw [if_pos (by omega)]
                show _ = _
                unfold rowE
                rw [h9]
                simp
              clear hcd
              by_cases hmore : k + 1 < t.length
              · have HR2 : Hid (rowE sig t = 32) := by show _ = _; rw [HR.out, if_pos (by omega)]
                go_wp2
                go_ret
                exact ⟨ret1i HR2.out.symm, rfl⟩
              · have HR2 : Hid (rowE sig t = 0) := by show _ = _; rw [HR.out, if_neg (by omega)]
                go_wp2
                go_roundw
                case rel => exact ⟨k + 1, 0, by omega, rfl, by go_num, .inr ⟨rfl, HR2.out⟩, by omega, trivial⟩
                case measure => simp [intOf]; omega
            · have hzb : (m - 1 + ar == 0) = false := by rw [beq_eq_false_iff_ne]; exact hz
              have HN : Hid (firstT sig 1 0 t = firstT sig (m - 1 + ar) (k + 1) (t.drop (k + 1))) := by
                show _ = _
                rw [HF.out, HD.out, firstT, hcd]
                simp only
                rw [if_neg (by omega), show m + (ar - 1) = m - 1 + ar by omega]
              clear hcd
              go_wp2
              go_roundw
              case rel => exact ⟨k + 1, m - 1 + ar, by omega, rfl, by go_num, .inl ⟨by omega, HN.out⟩, by omega, trivial⟩
              case measure => simp [intOf]; omega
      · have heq : ((k : Int) == (t.length : Int)) = true := by rw [beq_iff_eq]; omega
        have HR : Hid (rowE sig t = 31) := by show _ = _; unfold rowE; rw [HF.out, List.drop_of_length_le (by omega)]; rfl
        go_wp2
        go_ret
        exact ⟨ret1i HR.out.symm, rfl⟩
    · have HR := hid hft
      clear hft
      go_wp2
      go_ret
      exact ⟨ret1i HR.out.symm, rfl⟩

set_option maxRecDepth 100000 in
set_option maxHeartbeats 800000 in
theorem refCheck_any (sv v : Value) (sig : List Sy) (t : List Int) (w : World) (hs : Sg w sv sig) (h : Is w v t) (hb : t.length * 8 ≤ 140737488351232) :
    Calls Tryz.prog 34 #[sv, v] w fun e w' => e = .returned (.int .i64 (termE sig t)) ∧ Below w.heap.size w w' := by
  have HS := hid hs
  have HI := hid h
  clear hs h
  go_enter Tryz.func34, Tryz.ntmps34
  go_wp2_with fail
  refine (refCheckSig_any sv sig w HS.out).mono ?_
  rintro e w1 ⟨rfl, hb1⟩
  have HB := hid hb1
  have HS1 := hid (HS.out.kp (Kp.of_below hb1))
  have HI1 := hid (HI.out.kp (Kp.of_below hb1))
  clear hb1
  by_cases he : sigE sig = 0
  · have HA := hid (sigE_ok he)
    have HF : Hid (termE sig t = rowE sig t) := by show _ = _; unfold termE; rw [if_pos he]
    rw [he]
    clear he
    go_wp2_with fail
    refine (refTerm_any sv v sig t w1 HS1.out HI1.out HA.out hb).mono ?_
    rintro e w9 ⟨rfl, hw9⟩
    have hw8 := hw9.symm
    subst hw8
    clear hw9
    go_wp2
    go_ret
    exact ⟨ret1i HF.out.symm, HB.out⟩
  · have HF : Hid (termE sig t = sigE sig) := by show _ = _; unfold termE; rw [if_neg he]
    generalize sigE sig = E at he HF ⊢
    have heb : (E != 0) = true := by simpa using he
    go_wp2
    go_ret
    exact ⟨ret1i HF.out.symm, HB.out⟩

end Go.Proofs.YtdjmjhlbjcgoiaaGreatDoor
