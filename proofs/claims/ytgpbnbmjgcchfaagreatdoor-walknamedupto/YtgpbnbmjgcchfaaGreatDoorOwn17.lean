/- Texts of the proof, one behind the other. -/
import Derived.Test.YtgpbnbmjgcchfaaGreatDoorOwn16
import Derived.Test.YtgpbnbmjgcchfaaGreatDoorOwn12
import Derived.Deep.LoopGhost
import Derived.Test.YtgpbnbmjgcchfaaGreatDoorOwn15
import Derived.Lib.AppendZeros
import Derived.Test.YtgpbnbmjgcchfaaGreatDoorOwn14
/- All of package step walked. -/
namespace Go.Proofs.YtgpbnbmjgcchfaaGreatDoor
open Go.RowKit Go.Maps Go.BigFrame

/-- The redexes at a place, by the rules from the number k on. -/
noncomputable def redL (sig : List Sy) (part : List Int) (x : Nat) : Nat → List Rl → List Rx
  | _, [] => []
  | k, r :: rs => (if hitB sig r.1 part then [((x : Int), (k : Int))] else []) ++ redL sig part x (k + 1) rs

theorem redL_len (sig : List Sy) (part : List Int) (x : Nat) : ∀ (rs : List Rl) (k : Nat), (redL sig part x k rs).length ≤ rs.length
  | [], _ => Nat.le_refl _
  | r :: rs, k => by
    have h := redL_len sig part x rs (k + 1)
    unfold redL
    rw [List.length_append, List.length_cons]
    split
    · simp; omega
    · simp; omega

theorem redL_snoc (sig : List Sy) (part : List Int) (x : Nat) (r : Rl) : ∀ (rs : List Rl) (k : Nat), redL sig part x k (rs ++ [r]) = redL sig part x k rs ++ (if hitB sig r.1 part then [((x : Int), ((k + rs.length : Nat) : Int))] else [])
  | [], k => by simp [redL]
  | a :: rs, k => by
    rw [List.cons_append, redL, redL, redL_snoc sig part x r rs (k + 1), List.append_assoc, List.length_cons, show k + 1 + rs.length = k + (rs.length + 1) by omega]

/-- The part at a place. -/
def partV (t : List Int) (v : Nat × Nat) : List Int := (t.drop v.1).take (v.2 - v.1)

/-- The redexes of places, in their order. -/
noncomputable def redV (sig : List Sy) (rs : List Rl) (t : List Int) (vs : List (Nat × Nat)) : List Rx := vs.flatMap fun v => redL sig (partV t v) v.1 0 rs

theorem redV_snoc (sig : List Sy) (rs : List Rl) (t : List Int) (vs : List (Nat × Nat)) (v : Nat × Nat) : redV sig rs t (vs ++ [v]) = redV sig rs t vs ++ redL sig (partV t v) v.1 0 rs := by
  unfold redV
  rw [List.flatMap_append]
  simp

theorem redV_len (sig : List Sy) (rs : List Rl) (t : List Int) : ∀ vs : List (Nat × Nat), (redV sig rs t vs).length ≤ vs.length * rs.length
  | [] => by simp [redV]
  | v :: vs => by
    have h1 := redV_len sig rs t vs
    have h2 := redL_len sig (partV t v) v.1 rs 0
    unfold redV at h1 ⊢
    rw [List.flatMap_cons, List.length_append, List.length_cons, Nat.add_mul, Nat.one_mul]
    omega

theorem info_redex : (Tryz.prog.info? 32).map (fun i => (i.zero, i.size, i.bytes)) = some (some (.agg #[.int .i64 0, .int .i64 0]), 2, 16) := by kernel_rfl
theorem under_redexes : Tryz.prog.underlying 29 = some (.slice 32) := by kernel_rfl

/-- A redex joined. -/
theorem OX.join (ty : TypeId) {w : World} {base : Nat} {v : Value} {d : List Rx} {x : Rx} (h : OX w base v d) (hb : base ≤ w.heap.size) (hx : (-9223372036854775808 ≤ x.1 ∧ x.1 ≤ 9223372036854775807) ∧ -9223372036854775808 ≤ x.2 ∧ x.2 ≤ 9223372036854775807) (hl : (d.length + 1) * 16 ≤ 140737488355328) :
    ∃ v' w', (Builtin.append_ #[29, 29] ty #[v, .slice (some ⟨w.heap.size, 0, none⟩) 1 1]).run Tryz.prog (w.alloc (.cells #[.int .i64 x.1, .int .i64 x.2] 32)) = .ok v' w' ∧ OX w' base v' (d ++ [x]) ∧ (w.alloc (.cells #[.int .i64 x.1, .int .i64 x.2] 32)).grownBy w' v.ownBlock := by
  obtain ⟨i0, hi, hz0, hz1, hz2⟩ := info_parts info_redex
  have ho := (h.later (below_alloc (.cells #[.int .i64 x.1, .int .i64 x.2] 32))).2
  obtain ⟨v', w', hr, g2, g3, _, _⟩ := run_append_own_at (P := Tryz.prog) (w.alloc (.cells #[.int .i64 x.1, .int .i64 x.2] 32)) base 29 ty 32 i0 _ 2 16 under_redexes hi hz0 hz1 hz2 rfl (by decide) v d.length (prC (d.map rxV)) ho ⟨w.heap.size, 0, none⟩ 1 1 [.int .i64 x.1, .int .i64 x.2] rfl
    (fun j u hj => by
      rw [Addr.add_lit]
      match j, hj with
      | 0, hj => simp at hj; subst hj; exact cell_new rfl
      | 1, hj => simp at hj; subst hj; exact cell_new rfl
      | j + 2, hj => simp at hj)
    (fun u hu => by
      simp only [List.mem_cons, List.not_mem_nil, or_false] at hu
      rcases hu with rfl | rfl <;> rfl) (by unfold maxLen; omega) (by omega) (by rw [World.size_alloc]; omega)
  refine ⟨v', w', hr, ⟨fun y hy => ?_, ?_⟩, g3⟩
  · rcases List.mem_append.1 hy with hy | hy
    · exact h.1 y hy
    · rw [List.mem_singleton] at hy
      subst hy
      exact hx
  · rw [List.length_append, List.map_append, prC_app]
    exact g2

/-- The state of All's look. -/
def AllI (sig : List Sy) (rs : List Rl) (t : List Int) (B : Nat) (vs : List (Nat × Nat)) (W : World) : Prop :=
  ∃ v, W.heap[B]? = some (.cells #[v] 29) ∧ OX W (B + 1) v (redV sig rs t vs)

theorem AllI.later {sig : List Sy} {rs : List Rl} {t : List Int} {B : Nat} {vs : List (Nat × Nat)} {W W' : World} (h : AllI sig rs t B vs W) (hb : Below W.heap.size W W') : AllI sig rs t B vs W' := by
  obtain ⟨v, h1, h2⟩ := h
  exact ⟨v, ((grown_of_below hb none).block B (Array.getElem?_eq_some_iff.1 h1).1 (by simp)).trans h1, h2.later hb⟩

theorem Keep.of_own {B base : Nat} {w w' : World} {v : Value} {d : List Rx} (ho : OX w base v d) (hg : w.grownBy w' v.ownBlock) : Keep B w w' := by
  refine ⟨hg.size, fun k o _ hk hr => (hg.block k (Array.getElem?_eq_some_iff.1 hk).1 (fun e => ?_)).trans hk⟩
  rcases ho.2.2 with ⟨rfl, _⟩ | ⟨g, cap, cur, rfl, _, hgg, _⟩
  · cases e
  · cases e
    rw [hgg] at hk
    cases hk
    exact hr _ _ rfl

theorem Keep.of_set {B : Nat} (w : World) (o : Nat) (v : Value) : Keep B w (w.setCell ⟨B, o, none⟩ v) := ⟨by simp, fun k ob hk hb _ => (heap_setCell_other _ _ _ _ hk).trans hb⟩

/-- A redex joined to the variable in the block B. -/
theorem all_join {w0 W wr w6 : World} {B : Nat} {v : Value} {d : List Rx} {x : Rx} (hB : wr.heap[B]? = some (.cells #[v] 29)) (ho : OX wr (B + 1) v d) (hb0 : Below w0.heap.size w0 wr) (hw0 : w0.heap.size ≤ B) (hK : Keep B W wr) (hb : Below wr.heap.size wr w6) (hx : (-9223372036854775808 ≤ x.1 ∧ x.1 ≤ 9223372036854775807) ∧ -9223372036854775808 ≤ x.2 ∧ x.2 ≤ 9223372036854775807) (hl : d.length ≤ 1073741824) :
    ∃ a7 n7 c7 w7, (Builtin.append_ #[29, 29] 29 #[v, .slice (some ⟨w6.heap.size, 0, none⟩) 1 1]).run Tryz.prog (w6.alloc (.cells #[.int .i64 x.1, .int .i64 x.2] 32)) = .ok (.slice a7 n7 c7) w7 ∧ w6.cell? ⟨B, 0, none⟩ = some v ∧ w7.cell? ⟨B, 0, none⟩ = some v ∧ w7.frozen? ⟨B, 0, none⟩ = false ∧
      (w7.setCell ⟨B, 0, none⟩ (.slice a7 n7 c7)).heap[B]? = some (.cells #[.slice a7 n7 c7] 29) ∧ OX (w7.setCell ⟨B, 0, none⟩ (.slice a7 n7 c7)) (B + 1) (.slice a7 n7 c7) (d ++ [x]) ∧ Below w0.heap.size w0 (w7.setCell ⟨B, 0, none⟩ (.slice a7 n7 c7)) ∧ Keep B W (w7.setCell ⟨B, 0, none⟩ (.slice a7 n7 c7)) := by
  have hlt : B < wr.heap.size := (Array.getElem?_eq_some_iff.1 hB).1
  have ha : Below w6.heap.size w6 (w6.alloc (.cells #[.int .i64 x.1, .int .i64 x.2] 32)) := below_alloc _
  have hba := below_step hb ha
  obtain ⟨v7, w7, hr, o7, g7⟩ := OX.join 29 (x := x) (ho.later hb) (by have := hb.size; omega) hx (by omega)
  obtain ⟨a7, c7, rfl, _⟩ := o7.shape
  have hne : ∀ j, v.ownBlock = some j → B < j := fun j hj => own_blk ho.2 hj
  have e6 : w6.heap[B]? = some (.cells #[v] 29) := ((grown_of_below hb none).block _ hlt (by simp)).trans hB
  have eA : (w6.alloc (.cells #[.int .i64 x.1, .int .i64 x.2] 32)).heap[B]? = some (.cells #[v] 29) := ((grown_of_below hba none).block _ hlt (by simp)).trans hB
  have e7 : w7.heap[B]? = some (.cells #[v] 29) := (g7.block _ (Nat.lt_of_lt_of_le hlt hba.size) (fun e => by have := hne _ e.symm; omega)).trans eA
  have hB7 : Below w0.heap.size w0 w7 := (below_step hb0 hba).grown g7 (below_step hb0 hba).size (fun j hj => by have := hne _ hj; omega)
  have hOA := (ho.later hb).later ha
  refine ⟨a7, _, c7, w7, hr, cell_of_row _ _ _ _ _ _ e6, cell_of_row _ _ _ _ _ _ e7, frozen_of_row _ _ _ _ _ e7, heap_setCell_same _ _ _ _ _ _ e7, ?_, hB7.setCell (p := ⟨B, 0, none⟩) hw0 _, ?_⟩
  · refine o7.kept (row := some B) ⟨rfl, rfl, rfl, by simp, fun k _ hk => heap_setCell_other _ _ _ _ (fun e => hk (by rw [e]))⟩ (.inr fun e => ?_)
    have := own_blk o7.2 e
    omega
  · exact ((hK.trans (Keep.of_below hba)).trans (Keep.of_own hOA g7)).trans (Keep.of_set _ _ _)

set_option maxRecDepth 100000 in
set_option maxHeartbeats 1600000 in
theorem allLook_any {sig : List Sy} {rs : List Rl} {t : List Int} {w0 : World} {bs B x y : Nat} {sv rv pv : Value} {vs : List (Nat × Nat)} (W : World) (hs : Sg w0 sv sig) (hr : RU w0 rv rs) (hT : Tabs w0) (hc0 : w0.cell? ⟨bs, 0, none⟩ = some sv) (hc1 : w0.cell? ⟨bs, 1, none⟩ = some rv) (hw0 : w0.heap.size ≤ B) (hok : sysB sig rs = true) (htl : t.length ≤ 1048576)
    (hv : VOk sig t (x, y)) (hvs : vs.length < t.length) (hI : AllI sig rs t B vs W) (hB : Below w0.heap.size w0 W) (hp : Is w0 pv (partV t (x, y))) :
    Calls Tryz.prog 30 #[.int .i64 (x : Int), pv, .pointer (some ⟨bs, 0, none⟩), .pointer (some ⟨B, 0, none⟩)] W fun e w' => e = .returned (.bool false) ∧ AllI sig rs t B (vs ++ [(x, y)]) w' ∧ Below w0.heap.size w0 w' ∧ Keep B W w' := by
  obtain ⟨so, sc, rfl, hso, hsc, _⟩ := Row.flat hs
  obtain ⟨ro, rc, rfl, hro, hrc, _⟩ := Row.flat hr
  unfold maxLen at hrc
  obtain ⟨v0, hB0, ho0⟩ := hI
  have HS := hid hs
  have HR := hid hr
  have HT := hid hT
  have HP := hid hp
  have HC : Hid (∀ W', Below w0.heap.size w0 W' → W'.cell? ⟨bs, 0, none⟩ = some (.slice so sig.length sc) ∧ W'.cell? ⟨bs, 1, none⟩ = some (.slice ro rs.length rc)) := fun W' hW' => ⟨(Kp.of_below hW').cell _ _ hc0, (Kp.of_below hW').cell _ _ hc1⟩
  obtain ⟨hah, hru⟩ := sys_right hok
  have HRu := hid hru
  have hr64 := (ahead_parts hah).2.2.2
  have HSg := hid (ahead_parts hah).1
  have HV := hid hv
  have hlv := redV_len sig rs t vs
  have hm64 : vs.length * rs.length ≤ 1048576 * 64 := Nat.mul_le_mul (by omega) hr64
  have HLv : Hid ((redV sig rs t vs).length ≤ 1048576 * 64) := Nat.le_trans hlv hm64
  have HO0 := hid ho0
  have HB0 := hid hB0
  have HBW := hid hB
  have hx1 : x < t.length := by have := hv.1; have := hv.2.1; simp only at *; omega
  obtain ⟨x0, x1⟩ := HC.out W hB
  clear hs hr hT hp hc0 hc1 hok hah hru hv hlv hm64 ho0 hB0 hB
  go_enter Tryz.func30, Tryz.ntmps30
  go_wp2
  go_loopw [12] (fun iv wr => ∃ (k : Nat) (v : Value), k ≤ rs.length ∧ iv = .int .i64 k ∧ wr.heap[B]? = some (.cells #[v] 29) ∧ OX wr (B + 1) v (redV sig rs t vs ++ redL sig (partV t (x, y)) x 0 (rs.take k)) ∧ Below w0.heap.size w0 wr ∧ Keep B W wr) (fun iv _ => rs.length - (intOf iv).toNat)
  case atStart => exact ⟨0, v0, Nat.zero_le _, rfl, HB0.out, by simpa [redL] using HO0.out, HBW.out, Keep.refl _ _⟩
  case round =>
    obtain ⟨k, v, hk, rfl, hBk, hok, hbk, hKk⟩ := hrel
    have HBk := hid hBk
    have HOk := hid hok
    have HWk := hid hbk
    have HKk := hid hKk
    clear hBk hok hbk hKk HO0 HB0 HBW
    by_cases hlt : k < rs.length
    · have hd : decide ((k : Int) < (rs.length : Int)) = true := by simpa using hlt
      obtain ⟨g, off, l, r, a1, c1, a2, c2, rfl, hm, e0, e1, hi1, hi2, hl1, hl2⟩ := (HR.out.kp (Kp.of_below HWk.out)).at hlt
      have hrp := rule_parts (HRu.out _ (List.mem_of_getElem? hm))
      have HRp := hid hrp
      have HI1 := hid hi1
      have HI2 := hid hi2
      obtain ⟨W1, hW1⟩ : ∃ X, X = wr.alloc (.cells #[.slice a1 l.length c1, .slice a2 r.length c2] 64) := ⟨_, rfl⟩
      have hb1 : Below wr.heap.size wr W1 := by rw [hW1]; exact below_alloc _
      have HB1 := hid hb1
      obtain ⟨z0, z1⟩ := HC.out W1 (below_step HWk.out hb1)
      have f0 : W1.cell? ⟨wr.heap.size, 0, none⟩ = some (.slice a1 l.length c1) := by rw [hW1]; exact cell_new rfl
      have f1 : W1.cell? ⟨wr.heap.size, 1, none⟩ = some (.slice a2 r.length c2) := by rw [hW1]; exact cell_new rfl
      have HMm := hid (matches_any (.slice so sig.length sc) (.slice a1 l.length c1) (.slice a2 r.length c2) pv sig l r (partV t (x, y)) W1 (HS.out.kp (Kp.of_below (below_step HWk.out hb1))) (hi1.kp (Kp.of_below hb1)) (hi2.kp (Kp.of_below hb1)) (HP.out.kp (Kp.of_below (below_step HWk.out hb1))) (HT.out.below (below_step HWk.out hb1)) hrp.1 (by
        have h9 := HV.out.2.2
        simp only at h9
        show termE sig (partV t (x, y)) = 0
        unfold termE partV
        rw [if_pos HSg.out]
        exact h9) (by have := hrp.2.2.1; simp only at this; omega) (by
          have h9 : (partV t (x, y)).length ≤ t.length := by unfold partV; rw [List.length_take, List.length_drop]; omega
          omega))
      have HNx : Hid (redL sig (partV t (x, y)) x 0 (rs.take (k + 1)) = redL sig (partV t (x, y)) x 0 (rs.take k) ++ (if hitB sig l (partV t (x, y)) then [((x : Int), (k : Int))] else [])) := by
        show _ = _
        rw [take_get hm, redL_snoc, List.length_take, Nat.min_eq_left (by omega), Nat.zero_add]
      have HLk : Hid ((redV sig rs t vs ++ redL sig (partV t (x, y)) x 0 (rs.take k)).length ≤ 1048576 * 64 + 64) := by
        have h9 := redL_len sig (partV t (x, y)) x (rs.take k) 0
        rw [List.length_take] at h9
        have := HLv.out
        show _ ≤ _
        rw [List.length_append]
        omega
      have z0' := z0
      rw [hW1] at z0'
      clear hm hi1 hi2 hrp hb1 z0 z1 f0 f1
      go_wp2_with fail
      rw [← hW1]
      refine HMm.out.mono ?_
      rintro e w2 ⟨rfl, hb2⟩
      have HB2 := hid (below_step HB1.out hb2)
      clear hb2 z0' hW1 e0 e1 HMm
      cases hht : hitB sig l (partV t (x, y)) with
      | false =>
        have HN2 : Hid (redL sig (partV t (x, y)) x 0 (rs.take (k + 1)) = redL sig (partV t (x, y)) x 0 (rs.take k)) := by show _ = _; rw [HNx.out, hht]; simp
        have HBn : Hid (w2.heap[B]? = some (.cells #[v] 29)) := ((grown_of_below HB2.out none).block B (Array.getElem?_eq_some_iff.1 HBk.out).1 (by simp)).trans HBk.out
        clear hht
        go_wp2
        go_roundw
        case rel => exact ⟨k + 1, v, hlt, by go_num, HBn.out, by rw [HN2.out]; exact HOk.out.later HB2.out, below_step HWk.out HB2.out, HKk.out.trans (Keep.of_below HB2.out)⟩
        case measure => simp only [intOf]; omega
      | true =>
        have HN2 : Hid (redV sig rs t vs ++ redL sig (partV t (x, y)) x 0 (rs.take (k + 1)) = (redV sig rs t vs ++ redL sig (partV t (x, y)) x 0 (rs.take k)) ++ [((x : Int), (k : Int))]) := by show _ = _; rw [HNx.out, hht, List.append_assoc]; rfl
        obtain ⟨a7, n7, c7, w7, hr7, q6, q7, f7, hB8, ho8, hb8, hk8⟩ := all_join (x := ((x : Int), (k : Int))) HBk.out HOk.out HWk.out hw0 HKk.out HB2.out ⟨⟨by simp only; omega, by simp only; omega⟩, by simp only; omega, by simp only; omega⟩ (by have := HLk.out; omega)
        have HR7 := hid hr7
        have HB8 := hid hB8
        have HO8 := hid ho8
        have HW8 := hid hb8
        have HK8 := hid hk8
        have q6' := cell_old (o := .cells #[.int .i64 (x : Int), .int .i64 (k : Int)] 32) q6
        clear hht hr7 hB8 ho8 hb8 hk8
        go_wp2_with (first
          | (at_builtin; refine wpList_append_run rfl _ _ _ rfl _ _ rfl rfl HR7.out ?_))
        go_roundw
        case rel => exact ⟨k + 1, _, hlt, by go_num, HB8.out, by rw [HN2.out]; exact HO8.out, HW8.out, HK8.out⟩
        case measure => simp only [intOf]; omega
    · have hd : decide ((k : Int) < (rs.length : Int)) = false := by simpa using (show ¬ (k : Int) < (rs.length : Int) by omega)
      have HF : Hid (OX wr (B + 1) v (redV sig rs t (vs ++ [(x, y)]))) := by
        have h9 := HOk.out
        rw [List.take_of_length_le (by omega)] at h9
        show OX _ _ _ _
        rw [redV_snoc]
        exact h9
      go_wp2
      go_ret
      exact ⟨rfl, ⟨v, HBk.out, HF.out⟩, HWk.out, HKk.out⟩

end Go.Proofs.YtgpbnbmjgcchfaaGreatDoor

/- The redexes of a term in their order, plainly. -/
namespace Go.Proofs.YtgpbnbmjgcchfaaGreatDoor
open Go.RowKit Go.Maps Go.BigFrame

/-- All redexes of a term. -/
noncomputable def allL (sig : List Sy) (rs : List Rl) (t : List Int) : List Rx := (List.range t.length).flatMap fun (x : Nat) => redL sig (subL sig t (x : Int)) x 0 rs

theorem redL_key {sig : List Sy} {part : List Int} {x : Nat} : ∀ (rs : List Rl) (k : Nat), ∀ y ∈ redL sig part x k rs, y.1 = (x : Int)
  | [], _, y, h => by simp [redL] at h
  | r :: rs, k, y, h => by
    unfold redL at h
    rcases List.mem_append.1 h with h | h
    · split at h
      · rw [List.mem_singleton] at h
        rw [h]
      · cases h
    · exact redL_key rs (k + 1) y h

theorem fk_flat {g : Nat → List Rx} (hg : ∀ x, ∀ y ∈ g x, y.1 = (x : Int)) (k : Int) : ∀ L : List Nat, fk k (L.flatMap g) = (L.filter fun (x : Nat) => decide ((x : Int) = k)).flatMap g
  | [] => rfl
  | x :: L => by
    rw [List.flatMap_cons, fk_app, fk_flat hg k L]
    by_cases h : (x : Int) = k
    · rw [List.filter_cons_of_pos (by simpa using h), List.flatMap_cons]
      congr 1
      unfold fk
      rw [List.filter_eq_self]
      intro y hy
      rw [decide_eq_true_eq, hg x y hy, h]
    · rw [List.filter_cons_of_neg (by simpa using h)]
      have e : fk k (g x) = [] := by
        unfold fk
        rw [List.filter_eq_nil_iff]
        intro y hy
        rw [decide_eq_true_eq, hg x y hy]
        exact h
      rw [e, List.nil_append]

theorem fil_perm {g : Nat → List Rx} (hg : ∀ x, ∀ y ∈ g x, y.1 = (x : Int)) {L L' : List Nat} (h : L.Perm L') : Fil (L.flatMap g) (L'.flatMap g) := fun k => by
  rw [fk_flat hg, fk_flat hg]
  have hp := h.filter (fun (x : Nat) => decide ((x : Int) = k))
  have he : ∀ {l : List Nat}, (∀ x ∈ l, x = k.toNat) → l = List.replicate l.length k.toNat := fun {l} hl => List.eq_replicate_iff.2 ⟨rfl, hl⟩
  have hm : ∀ (l : List Nat), ∀ x ∈ l.filter (fun (x : Nat) => decide ((x : Int) = k)), x = k.toNat := fun l x hx => by
    have h9 := (List.mem_filter.1 hx).2
    rw [decide_eq_true_eq] at h9
    omega
  rw [he (hm L), he (hm L'), hp.length_eq]

theorem up_flat {g : Nat → List Rx} (hg : ∀ x, ∀ y ∈ g x, y.1 = (x : Int)) {L : List Nat} (h : L.Pairwise (· < ·)) : Up (L.flatMap g) := by
  unfold Up
  rw [List.pairwise_flatMap]
  refine ⟨fun x _ => ?_, h.imp fun {a b} hab y hy z hz => ?_⟩
  · refine List.pairwise_iff_getElem.2 fun i j hi hj _ => ?_
    rw [hg x _ (List.getElem_mem hi), hg x _ (List.getElem_mem hj)]
    exact Int.le_refl _
  · rw [hg a y hy, hg b z hz]
    omega

theorem flat_congr {α β : Type} {l : List α} {f g : α → List β} (h : ∀ a ∈ l, f a = g a) : l.flatMap f = l.flatMap g := by
  unfold List.flatMap
  rw [List.map_congr_left h]

theorem part_sub {sig : List Sy} {t : List Int} (ht : termE sig t = 0) {v : Nat × Nat} (h : VOk sig t v) : partV t v = subL sig t v.1 := by
  obtain ⟨h1, h2, h3⟩ := h
  have e : t = t.take v.1 ++ (partV t v ++ t.drop v.2) := by
    unfold partV
    have e1 : (t.drop v.1).take (v.2 - v.1) ++ t.drop v.2 = t.drop v.1 := by
      have := List.take_append_drop (v.2 - v.1) (t.drop v.1)
      rw [List.drop_drop, show v.1 + (v.2 - v.1) = v.2 by omega] at this
      exact this
    rw [e1, List.take_append_drop]
  have h9 := (sub_at ht h3 e).2
  rw [List.length_take, Nat.min_eq_left (by omega)] at h9
  exact h9.symm

/-- The sorted ones are all. -/
theorem all_eq {sig : List Sy} {rs : List Rl} {t : List Int} (ht : termE sig t = 0) {vs : List (Nat × Nat)} (h : Pv sig t 0 vs) {M : List Rx} (hu : Up M) (hf : Fil M (redV sig rs t vs)) : M = allL sig rs t := by
  have hg : ∀ x : Nat, ∀ y ∈ redL sig (subL sig t (x : Int)) x 0 rs, y.1 = (x : Int) := fun x y hy => redL_key rs 0 y hy
  have hok := pv_ok h t [] [] (by simp) rfl
  have e : redV sig rs t vs = (vs.map Prod.fst).flatMap fun (x : Nat) => redL sig (subL sig t (x : Int)) x 0 rs := by
    unfold redV
    rw [List.flatMap_map]
    refine flat_congr fun v hv => ?_
    rw [part_sub ht (hok v hv)]
  refine up_one hu (up_flat hg List.pairwise_lt_range) (hf.trans ?_)
  rw [e]
  refine fil_perm hg ?_
  rw [List.range_eq_range']
  exact pv_perm h

end Go.Proofs.YtgpbnbmjgcchfaaGreatDoor

/- All of package step walked: the whole. -/
namespace Go.Proofs.YtgpbnbmjgcchfaaGreatDoor
open Go.RowKit Go.Maps Go.BigFrame

theorem enterAll : ∀ args w, (callFunc 30 args).run Tryz.prog w = .ok (.enter 30 args) w := enters_of Tryz.func30 (by kernel_rfl) rfl

theorem stepE_zero {sig : List Sy} {rs : List Rl} {t : List Int} (h : stepE sig rs t = 0) : sysB sig rs = true ∧ termE sig t = 0 := by
  unfold stepE at h
  by_cases h0 : (sysE sig rs).1 = 0
  · rw [if_pos h0] at h
    exact ⟨by unfold sysB; exact decide_eq_true h0, h⟩
  · rw [if_neg h0] at h
    exact absurd h h0

theorem sig_arOk {sig : List Sy} (h : sigE sig = 0) : ArOk sig := sigE_ok h

/-- What All answers. -/
noncomputable def allR (sig : List Sy) (rs : List Rl) (t : List Int) : List Rx := if stepE sig rs t = 0 then allL sig rs t else []

set_option maxRecDepth 100000 in
set_option maxHeartbeats 1600000 in
theorem all_any (sv rv tv : Value) (sig : List Sy) (rs : List Rl) (t : List Int) (w : World) (hs : Sg w sv sig) (hr : RU w rv rs) (ht : Is w tv t) (hT : Tabs w) (htl : t.length ≤ 1048576) :
    Calls Tryz.prog 9 #[.agg #[sv, rv], tv] w fun e w' => ∃ v', e = .returned v' ∧ OX w' w.heap.size v' (allR sig rs t) ∧ Below w.heap.size w w' := by
  obtain ⟨so, sc, rfl, hso, hsc, _⟩ := Row.flat hs
  obtain ⟨ro, rc, rfl, hro, hrc, _⟩ := Row.flat hr
  have HS := hid hs
  have HR := hid hr
  have HTt := hid ht
  have HT := hid hT
  clear hs hr ht hT
  obtain ⟨w0, hw0⟩ : ∃ X, X = w.alloc (.cells #[.slice so sig.length sc, .slice ro rs.length rc] 25) := ⟨_, rfl⟩
  have C0 : Hid (Below w.heap.size w w0) := by rw [hw0]; exact below_alloc _
  have HC : Hid (∀ W, Below w0.heap.size w0 W → W.cell? ⟨w.heap.size, 0, none⟩ = some (.slice so sig.length sc) ∧ W.cell? ⟨w.heap.size, 1, none⟩ = some (.slice ro rs.length rc)) := fun W hW => by
    have hk := Kp.of_below hW
    rw [hw0] at hk
    exact ⟨hk.cell _ _ (cell_new rfl), hk.cell _ _ (cell_new rfl)⟩
  obtain ⟨R, hR⟩ : ∃ R, R = allR sig rs t := ⟨_, rfl⟩
  rw [← hR]
  have HRr := hid hR
  clear hR
  go_enter Tryz.func9, Tryz.ntmps9
  go_wp2_with fail
  rw [← hw0]
  clear hw0
  refine (stepCheck_any _ _ _ sig rs t w0 (HS.out.kp (Kp.of_below C0.out)) (HR.out.kp (Kp.of_below C0.out)) (HTt.out.kp (Kp.of_below C0.out)) (HT.out.below C0.out) (by omega)).mono ?_
  rintro e w1 ⟨rfl, hb1⟩
  have C1 := hid (below_step C0.out hb1)
  have D1 := hid hb1
  clear hb1
  by_cases he : stepE sig rs t = 0
  · rw [he]
    obtain ⟨hok, hte⟩ := stepE_zero he
    have HA : Hid (R = allL sig rs t) := by show _ = _; rw [HRr.out]; unfold allR; rw [if_pos he]
    obtain ⟨vs, hpv⟩ := pv_any (sig_arOk (term_parts hte).1) t.length t 0 (Nat.le_refl _) (term_parts hte).2
    obtain ⟨x0, x1⟩ := HC.out w1 D1.out
    obtain ⟨W2, hW2⟩ : ∃ X, X = w1.alloc (.cells #[.slice none 0 0] 29) := ⟨_, rfl⟩
    have b2 : Below w1.heap.size w1 W2 := by rw [hW2]; exact below_alloc _
    have hi2 : AllI sig rs t w1.heap.size [] W2 := ⟨_, by rw [hW2]; exact heap_alloc_new _ _, ⟨fun x hx => (by simp [redV] at hx), World.ownsRow_nil _ _ _ _⟩⟩
    have hLk : Lk sig t w1 w1.heap.size 30 #[.pointer (some ⟨w.heap.size, 0, none⟩), .pointer (some ⟨w1.heap.size, 0, none⟩)] (fun _ => false) (AllI sig rs t w1.heap.size) :=
      ⟨fun vs x y pv W hv hvs hI hB hp => allLook_any W (HS.out.kp (Kp.of_below C1.out)) (HR.out.kp (Kp.of_below C1.out)) (HT.out.below C1.out) x0 x1 (Nat.le_refl _) hok htl hv hvs hI hB hp, fun vs W W' h1 h2 => h1.later h2, enterAll⟩
    have HGo := hid (goThrough_any hLk _ _ W2 (HS.out.kp (Kp.of_below C1.out)) (HTt.out.kp (Kp.of_below C1.out)) (by omega) hpv hi2 b2 (by rw [hW2]; simp))
    have HPv := hid hpv
    have HR64 := hid (ahead_parts (sys_right hok).1).2.2.2
    have HTe := hid hte
    have y0 := (Kp.of_below b2).cell _ _ x0
    rw [hW2] at y0
    clear he hok hte hpv hi2 hLk b2 x0 x1
    go_wp2_with fail
    rw [← hW2]
    clear hW2 y0
    refine HGo.out.mono ?_
    rintro e w3 ⟨rfl, ⟨v3, hb3, ho3⟩, hB3, hK3⟩
    have C3 := hid (below_step C1.out hB3)
    have D3 := hid hB3
    have q3 : w3.cell? ⟨w1.heap.size, 0, none⟩ = some v3 := cell_of_row _ _ _ _ _ _ hb3
    have HB3 := hid hb3
    have e3 : upto (fun _ => false) vs = vs := upto_all (by simp)
    rw [e3] at ho3
    have HO3 := hid ho3
    have hl3 := redV_len sig rs t vs
    have hsh := ho3.shape
    clear hb3 hB3 hK3 ho3 e3 HGo
    obtain ⟨a3, c3, hv3, _⟩ := hsh
    have hm3 : (redV sig rs t vs).length ≤ 1152921504606846976 := by
      have h9 := pv_len HPv.out
      have h8 := HR64.out
      have : vs.length * rs.length ≤ 1048576 * 64 := Nat.mul_le_mul (by omega) h8
      omega
    generalize (redV sig rs t vs).length = N3 at hv3 hm3
    subst hv3
    clear hl3
    go_wp2_with fail
    refine (sortStable_any (w1.heap.size + 1) _ _ w3 HO3.out (by rw [HO3.out.len]; exact hm3)).mono ?_
    rintro e w4 ⟨M, rfl, hM, o4, g4⟩
    have hMe := all_eq HTe.out HPv.out hM.1 hM.2
    rw [← HA.out] at hMe
    subst hMe
    have HB4 : Hid (Below w.heap.size w w4) := C3.out.grown g4 C3.out.size (fun j hj => by have := own_blk HO3.out.2 hj; have := C1.out.size; omega)
    have hb4 : w4.heap[w1.heap.size]? = some (.cells #[.slice a3 N3 c3] 29) := (g4.block _ (Array.getElem?_eq_some_iff.1 HB3.out).1 (fun e => by have := own_blk HO3.out.2 e.symm; omega)).trans HB3.out
    have q4 : w4.cell? ⟨w1.heap.size, 0, none⟩ = some (.slice a3 N3 c3) := cell_of_row _ _ _ _ _ _ hb4
    have HO4 : Hid (OX w4 w.heap.size (.slice a3 N3 c3) M) := by
      refine ⟨o4.1, o4.2.1, ?_⟩
      rcases o4.2.2 with h9 | ⟨g, cap, cur, hv, hbg, r⟩
      · exact .inl h9
      · exact .inr ⟨g, cap, cur, hv, by have := C1.out.size; omega, r⟩
    clear hM o4 g4 hb4 q3
    go_wp2
    go_ret
    exact ⟨_, rfl, HO4.out, HB4.out⟩
  · have HA : Hid (R = []) := by show _ = _; rw [HRr.out]; unfold allR; rw [if_neg he]
    clear HRr
    generalize stepE sig rs t = E at he ⊢
    have hne : (E != 0) = true := by rw [bne_iff_ne]; exact he
    clear he
    go_wp2
    go_ret
    exact ⟨_, rfl, by rw [HA.out]; exact ⟨fun x hx => (by simp at hx), World.ownsRow_nil _ _ _ _⟩, C1.out⟩

end Go.Proofs.YtgpbnbmjgcchfaaGreatDoor

/- placesAbove walked. -/
namespace Go.Proofs.YtgpbnbmjgcchfaaGreatDoor
open Go.RowKit Go.Maps

theorem abv_here (T : Tr) (p : Nat) : abv T p p = [] := by
  cases T with
  | var => simp [abv]
  | app ts => unfold abv; rw [if_pos rfl]

theorem sizes_drop {ts : List Tr} {j : Nat} {t : Tr} (h : ts[j]? = some t) : sizes (ts.drop j) = t.size + sizes (ts.drop (j + 1)) := by
  rw [drop_get h]
  simp only [sizes]

theorem sizes_pos {ts : List Tr} {j : Nat} (h : 0 < sizes (ts.drop j)) : j < ts.length := by
  by_cases hj : j < ts.length
  · exact hj
  · rw [List.drop_of_length_le (by omega)] at h
    simp [sizes] at h

theorem abvs_next {ts : List Tr} {j p q : Nat} {t : Tr} (h : ts[j]? = some t) : abvs (ts.drop j) p q = if p + t.size ≤ q then abvs (ts.drop (j + 1)) (p + t.size) q else abv t p q := by
  rw [drop_get h]
  rfl

end Go.Proofs.YtgpbnbmjgcchfaaGreatDoor

/- slices.Grow, slices.Concat walked. -/
namespace Go.Proofs.YtgpbnbmjgcchfaaGreatDoor
open Go.RowKit Go.Maps Go.BigFrame

theorem wpList_append_run2 {P : Program} {w w' : World} {ops : Array Oper} {rest : List Oper} {o : Oper} {a : Act} {v' : Value} {Q : Exit → Act → World → Prop} (hgd : o.guard = none) (s x : Operand) (t t2 : TypeId)
    (ho : o.op = .call { callee := .builtin .append, args := #[s, x], argTypes := #[t, t2] }) (v u : Value) (hs : a.eval s = v) (hx : a.eval x = u)
    (hr : (Builtin.append_ #[t, t2] o.type #[v, u]).run P w = .ok v' w') (h : wpList P ops Q rest (a.put o.dst v') w') : wpList P ops Q (o :: rest) a w := by
  refine wpList_plain hgd fun K hK => ?_
  unfold Oper.wp execOp
  simp only [ho, resolve, invoke, builtin, Sem.run_bind, Sem.run_pure, Result.andThen_ok, List.map_toArray, List.map_cons, List.map_nil, hs, hx, hr]
  exact hK _ _ h

theorem zeroI_cells (n : Nat) : (Builtin.zeroCells (Value.int .i64 0).cells n).size = n := by
  simp [Builtin.zeroCells, Value.cells]

set_option maxRecDepth 100000 in
theorem growS_any (n : Nat) (w : World) (h : n * 8 ≤ 140737488355328) :
    Calls Tryz.prog 73 #[.slice none 0 0, .int .i64 n] w fun e w' => ∃ v', e = .returned v' ∧ OwI w' w.heap.size v' [] ∧ Below w.heap.size w w' := by
  obtain ⟨i0, hi, hz0, hz1, hz2⟩ := info_parts info_int
  by_cases h0 : n = 0
  · subst h0
    go_enter Tryz.func73, Tryz.ntmps73
    go_wp2
    go_ret
    exact ⟨_, rfl, nilI _ _, Below.refl _ _⟩
  · have hn1 : ¬ (n : Int) < 0 := by omega
    have hn2 : (0 : Int) < (n : Int) := by omega
    have hr := Lib.run_append_nil_zeros (P := Tryz.prog) w 26 3 26 3 i0 (.int .i64 0) .i64 .i64 under_ints (by kernel_rfl) hi hz0 n (by omega) (by rw [hz1]; decide) (by omega) (by rw [hz2]; omega)
    obtain ⟨C, hC⟩ : ∃ C, C = grownCap w n 0 3 := ⟨_, rfl⟩
    rw [← hC] at hr
    have HR := hid hr
    have HC : Hid (n ≤ C ∧ C ≤ maxLen) := by
      rw [hC]
      exact ⟨grownCap_ge _ _ _ _, grownCap_le_maxLen _ _ _ _ (by unfold maxLen; omega)⟩
    clear hr hC
    go_enter Tryz.func73, Tryz.ntmps73
    go_wp2_with (first
      | (at_builtin; refine wpList_append_run2 rfl _ _ _ _ rfl _ _ rfl rfl HR.out ?_))
    go_ret
    refine ⟨_, rfl, ⟨fun k x hk => (by simp at hk), rfl, .inr ⟨w.heap.size, C, _, rfl, Nat.le_refl _, heap_alloc_new _ _, Nat.zero_le _, HC.out.2, ?_, rfl⟩⟩, below_step (below_alloc _) (drawn_below1 _)⟩
    have h1 := zeroI_cells n
    have h2 := zeroI_cells (C - n)
    simp only [Value.cells] at h1 h2
    have := HC.out.1
    rw [Array.size_append, h1, h2]
    omega

theorem sumT_take {l : List (List Int)} {k : Nat} {r : List Int} (h : l[k]? = some r) : ((l.take (k + 1)).map List.length).sum = ((l.take k).map List.length).sum + r.length := by
  rw [take_get h, List.map_append, List.sum_append]
  simp

theorem sumT_le (l : List (List Int)) (k : Nat) : ((l.take k).map List.length).sum ≤ (l.map List.length).sum := by
  have : (l.map List.length).sum = ((l.take k).map List.length).sum + ((l.drop k).map List.length).sum := by
    rw [← List.sum_append, ← List.map_append, List.take_append_drop]
  omega

theorem flat_len (l : List (List Int)) : l.flatten.length = (l.map List.length).sum := List.length_flatten

set_option maxRecDepth 100000 in
set_option maxHeartbeats 1600000 in
theorem concat_any (v : Value) (l : List (List Int)) (w : World) (h : Rs w v l) (hl : (l.map List.length).sum * 8 ≤ 140737488355328) :
    Calls Tryz.prog 42 #[v] w fun e w' => ∃ v', e = .returned v' ∧ OwI w' w.heap.size v' l.flatten ∧ Below w.heap.size w w' := by
  obtain ⟨ao, cap, rfl, hao, hca, q0⟩ := Row.flat h
  unfold maxLen at hca
  have HR := hid h
  clear h q0
  go_enter Tryz.func42, Tryz.ntmps42
  go_wp2
  go_loopw [3, 11] (fun x i wr => ∃ k : Nat, k ≤ l.length ∧ i = .int .i64 k ∧ x = .int .i64 ((((l.take k).map List.length).sum : Nat) : Int) ∧ wr = w) (fun _ i _ => l.length - (intOf i).toNat)
  case atStart => exact ⟨0, Nat.zero_le _, rfl, rfl, rfl⟩
  case round =>
    obtain ⟨k, hk, rfl, rfl, hw⟩ := hrel
    have hw8 := hw.symm
    subst hw8
    clear hw
    have hsl := sumT_le l k
    have hsl1 := sumT_le l (k + 1)
    by_cases hlt : k < l.length
    · obtain ⟨g, off, a, r, c, rfl, hm, hc0, hir, hrl⟩ := HR.out.at hlt
      have hst := sumT_take hm
      have HSt := hid hst
      obtain ⟨S, hS⟩ : ∃ S, S = ((l.take k).map List.length).sum := ⟨_, rfl⟩
      rw [← hS] at hsl hst HSt ⊢
      have hw1 : IntKind.i64.wrap ((S : Int) + (r.length : Int)) = ((S + r.length : Nat) : Int) := by rw [IntWalk.i64_in _ ⟨by omega, by omega⟩]; omega
      have hn0 : ¬ ((S + r.length : Nat) : Int) < 0 := by omega
      clear hm hir hS
      go_wp2
      go_roundw
      case rel => exact ⟨k + 1, by omega, by go_num, by rw [HSt.out]; exact congrArg (Value.int .i64) (by omega), trivial⟩
      case measure => simp [intOf]; omega
    · have hke : k = l.length := by omega
      subst hke
      rw [List.take_length]
      have HG := hid (growS_any (l.map List.length).sum w hl)
      go_wp2_with fail
      refine HG.out.mono ?_
      rintro e w1 ⟨v1, rfl, ho1, hb1⟩
      have HO1 := hid ho1
      have HB1 := hid hb1
      clear ho1 hb1 HG hsl hsl1 hlt hk
      go_wp2
      go_loopw [6, 27] (fun x i wr => ∃ k : Nat, k ≤ l.length ∧ i = .int .i64 k ∧ OwI wr w.heap.size x (l.take k).flatten ∧ Below w.heap.size w wr) (fun _ i _ => l.length - (intOf i).toNat)
      case atStart => exact ⟨0, Nat.zero_le _, rfl, HO1.out, HB1.out⟩
      case round =>
        obtain ⟨k, hk, rfl, how, hbl⟩ := hrel
        have HO := hid how
        have HB := hid hbl
        have hsl := sumT_le l k
        have hsl1 := sumT_le l (k + 1)
        clear how
        by_cases hlt : k < l.length
        · obtain ⟨g, off, a, r, c, rfl, hm, hc0, hir, hrl⟩ := (HR.out.kp (Kp.of_below hbl)).at hlt
          have hst := sumT_take hm
          have HFl : Hid ((l.take (k + 1)).flatten = (l.take k).flatten ++ r) := by
            show _ = _
            rw [take_get hm, List.flatten_append]
            simp
          obtain ⟨v4, w4, hr4, ho4, hg4⟩ := join_ints 26 HO.out hir HB.out.size (by rw [flat_len]; omega)
          have HR4 := hid hr4
          have HO4 := hid ho4
          have HB4 : Hid (Below w.heap.size w w4) := HB.out.grown hg4 HB.out.size (fun j hj => own_blk HO.out.2 hj)
          clear hm hir hr4 ho4 hg4 hst hbl
          go_wp2_with (first
            | (at_builtin; refine wpList_append_run rfl _ _ _ rfl _ _ rfl rfl HR4.out ?_))
          go_roundw
          case rel => exact ⟨k + 1, by omega, by go_num, by rw [HFl.out]; exact HO4.out, HB4.out⟩
          case measure => simp [intOf]; omega
        · have hke : k = l.length := by omega
          subst hke
          rw [List.take_length] at HO
          go_wp2
          go_ret
          exact ⟨_, rfl, HO.out, HB.out⟩

end Go.Proofs.YtgpbnbmjgcchfaaGreatDoor

/- Replace and Above walked. -/
namespace Go.Proofs.YtgpbnbmjgcchfaaGreatDoor
open Go.RowKit Go.Maps Go.BigFrame

/-- What is wrong with what Replace is asked. -/
def replE (sig : List Sy) (t : List Int) (p : Int) (u : List Int) : Int :=
  if termE sig t = 0 then (if rowE sig u = 0 then (if placeE sig t p = 0 then (if 512 < p.toNat + u.length + (t.length - (p.toNat + nodes sig t p.toNat)) then 2 else 0) else placeE sig t p) else rowE sig u) else termE sig t

def replL (sig : List Sy) (t : List Int) (p : Int) (u : List Int) : List Int := if replE sig t p u = 0 then t.take p.toNat ++ (u ++ t.drop (p.toNat + nodes sig t p.toNat)) else []

theorem repl_none {sig : List Sy} {t u : List Int} {p : Int} (h : replE sig t p u ≠ 0) : replL sig t p u = [] := by
  unfold replL
  rw [if_neg h]

theorem repl_ok {sig : List Sy} {t u : List Int} {k : Nat} (ht : termE sig t = 0) (hu : rowE sig u = 0) (hk : k < t.length) :
    replE sig t k u = (if 512 < k + u.length + (t.length - (k + nodes sig t k)) then 2 else 0) ∧ replL sig t k u = (if 512 < k + u.length + (t.length - (k + nodes sig t k)) then [] else t.take k ++ (u ++ t.drop (k + nodes sig t k))) := by
  have h1 : replE sig t k u = if 512 < k + u.length + (t.length - (k + nodes sig t k)) then 2 else 0 := by
    unfold replE
    rw [if_pos ht, if_pos hu, if_pos (place_in ht hk), Int.toNat_natCast]
  refine ⟨h1, ?_⟩
  unfold replL
  rw [h1, Int.toNat_natCast]
  by_cases h2 : 512 < k + u.length + (t.length - (k + nodes sig t k))
  · rw [if_pos h2, if_pos h2, if_neg (by omega)]
  · rw [if_neg h2, if_neg h2, if_pos rfl]

/-- The end of a row. -/
theorem Is.tail {w : World} {b off cap k : Nat} {t : List Int} (h : Is w (.slice (some ⟨b, off, none⟩) t.length cap) t) (hk : k ≤ t.length) : Is w (.slice (some ⟨b, if cap = k then off else off + k, none⟩) (t.length - k) (cap - k)) (t.drop k) := by
  by_cases he : k = t.length
  · subst he
    rw [List.drop_length, Nat.sub_self]
    obtain ⟨ao, cap', e, h1, h2, h3⟩ := h
    simp only [Value.slice.injEq, true_and] at e
    obtain ⟨_, rfl⟩ := e
    exact Row.nil (by omega)
  · have h1 : t.length ≤ cap := by
      obtain ⟨ao, cap', e, h1, _⟩ := h
      simp only [Value.slice.injEq, true_and] at e
      obtain ⟨_, rfl⟩ := e
      exact h1
    have h2 := h.mid (k := k) (m := t.length - k) (by omega) (by omega)
    rw [List.take_of_length_le (by rw [List.length_drop]; exact Nat.le_refl _)] at h2
    rw [if_neg (by omega)]
    exact h2

/-- The beginning of a row. -/
theorem Is.head {w : World} {b off cap k : Nat} {t : List Int} (h : Is w (.slice (some ⟨b, off, none⟩) t.length cap) t) (hk : k ≤ t.length) : Is w (.slice (some ⟨b, off, none⟩) k cap) (t.take k) := by
  obtain ⟨ao, cap', e, h1, h2, h3⟩ := h
  simp only [Value.slice.injEq, true_and] at e
  obtain ⟨rfl, rfl⟩ := e
  have hl : (t.take k).length = k := by rw [List.length_take]; omega
  refine ⟨some ⟨b, off, none⟩, cap, by rw [hl], by omega, h2, fun h0 => ?_⟩
  rw [hl] at h0
  obtain ⟨g, o, e, hg, hE⟩ := h3 (by omega)
  simp only [Option.some.injEq, Addr.mk.injEq, and_true] at e
  obtain ⟨rfl, rfl⟩ := e
  refine ⟨b, off, rfl, hg, fun j x hj => hE j x ?_⟩
  have := (List.getElem?_eq_some_iff.1 hj).1
  rw [List.getElem?_take_of_lt (by omega)] at hj
  exact hj

set_option maxRecDepth 100000 in
set_option maxHeartbeats 1600000 in
theorem replace_any (sv v uv : Value) (sig : List Sy) (t u : List Int) (p : Int) (w : World) (hs : Sg w sv sig) (h : Is w v t) (hu : Is w uv u) (hT : Tabs w) (hb : t.length * 8 ≤ 140737488351232) (hbu : u.length * 8 ≤ 140737488351232) (hp1 : -9223372036854775808 ≤ p) (hp2 : p ≤ 9223372036854775807) :
    Calls Tryz.prog 13 #[sv, v, .int .i64 p, uv] w fun e w' => ∃ v', e = .returned (.tuple #[v', .int .i64 (replE sig t p u)]) ∧ OwI w' w.heap.size v' (replL sig t p u) ∧ Below w.heap.size w w' := by
  obtain ⟨ao, cap, rfl, hao, hca, _⟩ := Row.flat h
  obtain ⟨uo, uc, rfl, huo, hcu, _⟩ := Row.flat hu
  unfold maxLen at hca hcu
  have HS := hid hs
  have HI := hid h
  have HU := hid hu
  have HT := hid hT
  have HP := hid (And.intro hp1 hp2)
  clear hs h hT hp1 hp2 hu
  go_enter Tryz.func13, Tryz.ntmps13
  go_wp2_with fail
  refine (check_any sv _ sig t w HS.out HI.out HT.out (by omega)).mono ?_
  rintro e w1 ⟨rfl, hb1⟩
  have HB1 := hid hb1
  clear hb1
  by_cases hte : termE sig t = 0
  · have HTe := hid hte
    have HPl : Hid (placeE sig t p = (endP sig t p).2) := by show _ = _; unfold placeE; rw [if_pos hte]
    have ha := sigE_ok (term_parts hte).1
    have HA := hid ha
    rw [hte]
    clear hte ha
    go_wp2_with fail
    refine (checkRow_any sv _ sig u w1 (HS.out.kp (Kp.of_below HB1.out)) (HU.out.kp (Kp.of_below HB1.out)) HA.out hbu).mono ?_
    rintro e w2 ⟨rfl, hw2⟩
    have hw8 := hw2.symm
    subst hw8
    clear hw2
    by_cases hue : rowE sig u = 0
    · have HUe := hid hue
      rw [hue]
      clear hue
      go_wp2_with fail
      refine (endOf_any sv _ sig t p w1 (HS.out.kp (Kp.of_below HB1.out)) (HI.out.kp (Kp.of_below HB1.out)) HA.out (by omega) HP.out.1 HP.out.2).mono ?_
      rintro e w2 ⟨rfl, hw2⟩
      have hw8 := hw2.symm
      subst hw8
      clear hw2
      by_cases he : (endP sig t p).2 = 0
      · have hpl := HPl.out.trans he
        obtain ⟨_, hrt, k, _, hk, hkl, _⟩ := placeE_ok hpl
        subst hk
        obtain ⟨n1, n2, n3, _⟩ := at_place HA.out hrt hkl
        obtain ⟨r1, r2⟩ := repl_ok HTe.out HUe.out hkl
        have HR1 := hid r1
        have HR2 := hid r2
        rw [place_end HTe.out hkl]
        obtain ⟨n, hn⟩ : ∃ n, n = nodes sig t k := ⟨_, rfl⟩
        rw [← hn] at n1 n2 HR1 HR2 ⊢
        obtain ⟨b, off, c0, rfl, _⟩ := HI.out.at (k := 0) (by omega)
        have hw1 : IntKind.i64.wrap ((k : Int) + (u.length : Int)) = (k : Int) + (u.length : Int) := IntWalk.i64_in _ ⟨by omega, by omega⟩
        have hw2 : IntKind.i64.wrap ((k : Int) + (u.length : Int) + (t.length : Int)) = (k : Int) + (u.length : Int) + (t.length : Int) := IntWalk.i64_in _ ⟨by omega, by omega⟩
        have hw3 : IntKind.i64.wrap ((k : Int) + (u.length : Int) + (t.length : Int) - ((k : Int) + (n : Int))) = ((k + u.length + (t.length - (k + n)) : Nat) : Int) := by rw [IntWalk.i64_in _ ⟨by omega, by omega⟩]; omega
        clear hpl he hrt n3 r1 r2 hn
        by_cases hbig : 512 < k + u.length + (t.length - (k + n))
        · rw [if_pos hbig] at HR1 HR2
          have hbg : (512 : Int) < ((k + u.length + (t.length - (k + n)) : Nat) : Int) := by omega
          go_wp2
          go_ret2
          exact ⟨_, by rw [HR1.out]; rfl, by rw [HR2.out]; exact nilI _ _, HB1.out⟩
        · rw [if_neg hbig] at HR1 HR2
          have hbg : ¬ (512 : Int) < ((k + u.length + (t.length - (k + n)) : Nat) : Int) := by omega
          have hkc : k ≤ cap := by omega
          have hknc : k + n ≤ cap := by omega
          have HCon : Hid (∀ x3 : Value, Is w1 x3 (t.drop (k + n)) → Calls Tryz.prog 42 #[.slice (some ⟨w1.heap.size, 0, none⟩) 3 3] (w1.alloc (.cells #[.slice (some ⟨b, off, none⟩) k cap, .slice uo u.length uc, x3] 26)).drew
              fun e w' => ∃ v', e = .returned v' ∧ OwI w' w1.heap.size v' (t.take k ++ (u ++ t.drop (k + n))) ∧ Below w1.heap.size w1 w') := by
            intro x3 h3
            have hbl : Below w1.heap.size w1 (w1.alloc (.cells #[.slice (some ⟨b, off, none⟩) k cap, .slice uo u.length uc, x3] 26)).drew := below_step (below_alloc _) (drawn_below1 _)
            have hkp := Kp.of_below hbl
            have i1 := ((HI.out.kp (Kp.of_below HB1.out)).head (k := k) (by omega)).kp hkp
            have i2 := (HU.out.kp (Kp.of_below HB1.out)).kp hkp
            have i3 := h3.kp hkp
            have hc : ∀ (j : Nat) (x : Value), #[Value.slice (some ⟨b, off, none⟩) k cap, .slice uo u.length uc, x3][j]? = some x → (w1.alloc (.cells #[.slice (some ⟨b, off, none⟩) k cap, .slice uo u.length uc, x3] 26)).drew.cell? ⟨w1.heap.size, j, none⟩ = some x := fun j x hj => cell_new hj
            have hl1 : (t.take k).length * 8 ≤ 140737488351232 := by rw [List.length_take]; omega
            have hl3 : (t.drop (k + n)).length * 8 ≤ 140737488351232 := by rw [List.length_drop]; omega
            have hrs : Rs (w1.alloc (.cells #[.slice (some ⟨b, off, none⟩) k cap, .slice uo u.length uc, x3] 26)).drew (.slice (some ⟨w1.heap.size, 0, none⟩) 3 3) [t.take k, u, t.drop (k + n)] :=
              rs_lit (p := [t.take k, u, t.drop (k + n)]) (by show w1.heap.size < (w1.alloc _).heap.size; simp) (by simp) ⟨⟨hl1, _, hc 0 _ rfl, i1⟩, ⟨hbu, _, hc 1 _ rfl, i2⟩, ⟨hl3, _, hc 2 _ rfl, i3⟩, trivial⟩
            refine (concat_any _ _ _ hrs (by simp only [List.map_cons, List.map_nil, List.sum_cons, List.sum_nil, List.length_take, List.length_drop]; omega)).mono ?_
            rintro e w9 ⟨v9, rfl, ho9, hb9⟩
            refine ⟨v9, rfl, ?_, below_step hbl hb9⟩
            have := ho9.mono hbl.size
            simpa using this
          have hI3 := (HI.out.kp (Kp.of_below HB1.out)).tail (k := k + n) n2
          have HC3 := hid (HCon.out _ hI3)
          clear hI3 HCon
          by_cases hcn : cap = k + n
          · subst hcn
            rw [if_pos rfl, Nat.sub_self, show t.length - (k + n) = 0 by omega] at HC3
            go_wp2_with fail
            clear hw1 hw2 hw3 hbg hbig
            go_region_with (first
              | (refine HC3.out.mono ?_; rintro e w9 ⟨v9, rfl, ho9, hb9⟩; have HO9 := hid (ho9.mono HB1.out.size); have HB9 := hid (below_step HB1.out hb9); clear ho9 hb9))
            all_goals (go_wp2; go_ret2; exact ⟨_, by rw [HR1.out]; rfl, by rw [HR2.out]; exact HO9.out, HB9.out⟩)
          · rw [if_neg hcn] at HC3
            go_wp2_with fail
            clear hw1 hw2 hw3 hbg hbig
            go_region_with (first
              | (refine HC3.out.mono ?_; rintro e w9 ⟨v9, rfl, ho9, hb9⟩; have HO9 := hid (ho9.mono HB1.out.size); have HB9 := hid (below_step HB1.out hb9); clear ho9 hb9))
            all_goals (go_wp2; go_ret2; exact ⟨_, by rw [HR1.out]; rfl, by rw [HR2.out]; exact HO9.out, HB9.out⟩)
      · have HR1 : Hid (replE sig t p u = (endP sig t p).2) := by show _ = _; unfold replE; rw [if_pos HTe.out, if_pos HUe.out, if_neg (fun h => he (HPl.out.symm.trans h)), HPl.out]
        have HR2 := hid (repl_none (fun h => he (HR1.out.symm.trans h)))
        generalize (endP sig t p).2 = E at he HPl HR1 ⊢
        generalize (endP sig t p).1 = E1
        have heb : (E != 0) = true := by simpa using he
        go_wp2
        go_ret2
        exact ⟨_, by rw [HR1.out]; rfl, by rw [HR2.out]; exact nilI _ _, HB1.out⟩
    · have HR1 : Hid (replE sig t p u = rowE sig u) := by show _ = _; unfold replE; rw [if_pos HTe.out, if_neg hue]
      have HR2 := hid (repl_none (fun h => hue (HR1.out.symm.trans h)))
      generalize rowE sig u = E at hue HR1 ⊢
      have heb : (E != 0) = true := by simpa using hue
      go_wp2
      go_ret2
      exact ⟨_, by rw [HR1.out]; rfl, by rw [HR2.out]; exact nilI _ _, HB1.out⟩
  · have HR1 : Hid (replE sig t p u = termE sig t) := by show _ = _; unfold replE; rw [if_neg hte]
    have HR2 := hid (repl_none (fun h => hte (HR1.out.symm.trans h)))
    generalize termE sig t = E at hte HR1 ⊢
    have heb : (E != 0) = true := by simpa using hte
    go_wp2
    go_ret2
    exact ⟨_, by rw [HR1.out]; rfl, by rw [HR2.out]; exact nilI _ _, HB1.out⟩

end Go.Proofs.YtgpbnbmjgcchfaaGreatDoor

/- What makes a pattern a term is one. -/
namespace Go.Proofs.YtgpbnbmjgcchfaaGreatDoor
open Go.RowKit Go.Maps

theorem laid_unique {sig : List Sy} {f g : Int → Option (List Int)} (hf : Rt sig f) (hg : Rt sig g) : ∀ p : List Int, (∀ c ∈ p, c < 0 → f (-1 - c) ≠ none) → (∀ c ∈ p, c < 0 → g (-1 - c) ≠ none) → laidL f p = laidL g p → ∀ c ∈ p, c < 0 → f (-1 - c) = g (-1 - c)
  | [], _, _, _, c, hc, _ => by simp at hc
  | d :: p, h1, h2, h, c, hc, h0 => by
    rw [laidL_cons, laidL_cons] at h
    by_cases hd : d < 0
    · obtain ⟨u, hu⟩ := Option.ne_none_iff_exists'.1 (h1 d (by simp) hd)
      obtain ⟨v, hv⟩ := Option.ne_none_iff_exists'.1 (h2 d (by simp) hd)
      have e1 : piece f d = u := by unfold piece; rw [if_pos hd, hu]; rfl
      have e2 : piece g d = v := by unfold piece; rw [if_pos hd, hv]; rfl
      rw [e1, e2] at h
      have k1 := first_right (hf _ _ hu) (laidL f p)
      rw [h, first_right (hg _ _ hv)] at k1
      have k2 : u.length = v.length := by
        have := congrArg Prod.fst k1
        simp only at this
        omega
      obtain ⟨k3, k4⟩ := List.append_inj h k2
      rcases List.mem_cons.1 hc with rfl | hc
      · rw [hu, hv, k3]
      · exact laid_unique hf hg p (fun x hx => h1 x (by simp [hx])) (fun x hx => h2 x (by simp [hx])) k4 c hc h0
    · have e1 : piece f d = [d] := by unfold piece; rw [if_neg hd]
      have e2 : piece g d = [d] := by unfold piece; rw [if_neg hd]
      rw [e1, e2] at h
      have k4 : laidL f p = laidL g p := by simpa using h
      rcases List.mem_cons.1 hc with rfl | hc
      · exact absurd h0 hd
      · exact laid_unique hf hg p (fun x hx => h1 x (by simp [hx])) (fun x hx => h2 x (by simp [hx])) k4 c hc h0

theorem sm_unique {sig : List Sy} {f g : Int → Option (List Int)} {p t : List Int} (hf : Rt sig f) (hg : Rt sig g) (h1 : Sm f p t) (h2 : Sm g p t) : ∀ c ∈ p, c < 0 → f (-1 - c) = g (-1 - c) := laid_unique hf hg p h1.1 h2.1 (by rw [h1.2, h2.2])

theorem binds_unique {sig : List Sy} {f g : Int → Option (List Int)} {p t : List Int} (hf : Rt sig f) (hg : Rt sig g) (h1 : Sm f p t) (h2 : Sm g p t) : bindsL f p = bindsL g p := by
  unfold bindsL
  refine List.map_congr_left fun n hn => ?_
  obtain ⟨c, hc, h0, rfl⟩ := mem_varsL.1 ((sortI_mem _ _).1 hn)
  rw [sm_unique hf hg h1 h2 c hc h0]

end Go.Proofs.YtgpbnbmjgcchfaaGreatDoor
