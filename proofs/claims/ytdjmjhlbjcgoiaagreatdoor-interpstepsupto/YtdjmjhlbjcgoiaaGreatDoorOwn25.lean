/- Texts of the proof, one behind the other. -/
import Derived.Test.YtdjmjhlbjcgoiaaGreatDoorOwn24
import Derived.Test.YtdjmjhlbjcgoiaaGreatDoorOwn23
import Derived.Test.YtdjmjhlbjcgoiaaGreatDoorOwn5
import Derived.Test.YtdjmjhlbjcgoiaaGreatDoorOwn6
import Derived.Test.YtdjmjhlbjcgoiaaGreatDoorOwn20
set_option maxRecDepth 1000000
set_option maxHeartbeats 6400000
namespace Go.Proofs.YtdjmjhlbjcgoiaaGreatDoor
open Go.RowKit Go.Maps Go.BigFrame
noncomputable def redL (sig : List Sy) (part : List Int) (x : Nat) : Nat → List Rl → List Rx
 | _, [] => []
 | k, r :: rs => (if hitB sig r.1 part then [((x : Int), (k : Int))] else []) ++ redL sig part x (k + 1) rs
theorem redL_len (sig : List Sy) (part : List Int) (x : Nat) : ∀ (rs : List Rl) (k : Nat), (redL sig part x k rs).length ≤ rs.length
 | [], _ => Nat.le_refl _
 | r :: rs, k => by
  have h := redL_len sig part x rs (k + 1)
  unfold redL
  rw [zF, zG]
  split
  ·simp; omega
  simp; omega
theorem redL_snoc (sig : List Sy) (part : List Int) (x : Nat) (r : Rl) : ∀ (rs : List Rl) (k : Nat), redL sig part x k (rs ++ [r]) = redL sig part x k rs ++ (if hitB sig r.1 part then [((x : Int), ((k + rs.length : Nat) : Int))] else [])
 | [], k => by simp [redL]
 | a :: rs, k => by
  rw [yG, redL, redL, redL_snoc sig part x r rs (k + 1), zR, zG, show k + 1 + rs.length = k + (rs.length + 1) by omega]
def partV (t : List Int) (v : Nat × Nat) : List Int := (t.drop v.1).take (v.2 - v.1)
noncomputable def redV (sig : List Sy) (rs : List Rl) (t : List Int) (vs : List (Nat × Nat)) : List Rx := vs.flatMap fun v => redL sig (partV t v) v.1 0 rs
theorem redV_snoc (sig : List Sy) (rs : List Rl) (t : List Int) (vs : List (Nat × Nat)) (v : Nat × Nat) : redV sig rs t (vs ++ [v]) = redV sig rs t vs ++ redL sig (partV t v) v.1 0 rs := by
 unfold redV
 rw [List.flatMap_append]
 simp
theorem redV_len (sig : List Sy) (rs : List Rl) (t : List Int) : ∀ vs : List (Nat × Nat), (redV sig rs t vs).length ≤ vs.length * rs.length
 | [] => by simp [redV]
 | v :: vs => by
  have h1 := redV_len sig rs t vs
  have h2 := redL_len sig (partV t v) v.1 rs 0
  unfold redV at h1 ⊢
  rw [List.flatMap_cons, zF, zG, Nat.add_mul, Nat.one_mul]
  omega
theorem info_redex : (Tryz.prog.info? 69).map (fun i => (i.zero, i.size, i.bytes)) = some (some (.agg #[.int .i64 0, .int .i64 0]), 2, 16) := by kernel_rfl
theorem under_redexes : Tryz.prog.underlying 65 = some (.slice 69) := by kernel_rfl
theorem OX.join (ty : TypeId) {w : World} {base : Nat} {v : Value} {d : List Rx} {x : Rx} (h : OX w base v d) (hb : base ≤ w.heap.size) (hx : (-9223372036854775808 ≤ x.1 ∧ x.1 ≤ 9223372036854775807) ∧ -9223372036854775808 ≤ x.2 ∧ x.2 ≤ 9223372036854775807) (hl : (d.length + 1) * 16 ≤ 140737488355328) :
  ∃ v' w', (Builtin.append_ #[65, 65] ty #[v, .slice (some ⟨w.heap.size, 0, none⟩) 1 1]).run Tryz.prog (w.alloc (.cells #[.int .i64 x.1, .int .i64 x.2] 69)) = .ok v' w' ∧ OX w' base v' (d ++ [x]) ∧ (w.alloc (.cells #[.int .i64 x.1, .int .i64 x.2] 69)).grownBy w' v.ownBlock := by
 obtain ⟨i0, hi, hz0, hz1, hz2⟩ := info_parts info_redex
 have ho := (h.later (zA (.cells #[.int .i64 x.1, .int .i64 x.2] 69))).2
 obtain ⟨v', w', hr, g2, g3, _, _⟩ := run_append_own_at (P := Tryz.prog) (w.alloc (.cells #[.int .i64 x.1, .int .i64 x.2] 69)) base 65 ty 69 i0 _ 2 16 under_redexes hi hz0 hz1 hz2 rfl (by decide) v d.length (prC (d.map rxV)) ho ⟨w.heap.size, 0, none⟩ 1 1 [.int .i64 x.1, .int .i64 x.2] rfl
  (fun j u hj => by
   rw [Addr.add_lit]
   match j, hj with
   | 0, hj => simp at hj; subst hj; exact xAB rfl
   | 1, hj => simp at hj; subst hj; exact xAB rfl
   | j + 2, hj => simp at hj)
  (fun u hu => by
   simp only [yB, List.not_mem_nil, or_false] at hu
   rcases hu with rfl | rfl <;> rfl) (by unfold maxLen; omega) (by omega) (by rw [World.size_alloc]; omega)
 refine ⟨v', w', hr, ⟨fun y hy => ?_, ?_⟩, g3⟩
 ·rcases yE.1 hy with hy | hy
  ·exact h.1 y hy
  rw [yR] at hy
  subst hy
  exact hx
 rw [zF, yI, prC_app]
 exact g2
def AllI (sig : List Sy) (rs : List Rl) (t : List Int) (B : Nat) (vs : List (Nat × Nat)) (W : World) : Prop :=
 ∃ v, W.heap[B]? = some (.cells #[v] 65) ∧ OX W (B + 1) v (redV sig rs t vs)
theorem AllI.later {sig : List Sy} {rs : List Rl} {t : List Int} {B : Nat} {vs : List (Nat × Nat)} {W W' : World} (h : AllI sig rs t B vs W) (hb : Below W.heap.size W W') : AllI sig rs t B vs W' := by
 obtain ⟨v, h1, h2⟩ := h
 exact ⟨v, ((xAA hb none).block B (zL.1 h1).1 (by simp)).trans h1, h2.later hb⟩
theorem Keep.of_own {B base : Nat} {w w' : World} {v : Value} {d : List Rx} (ho : OX w base v d) (hg : w.grownBy w' v.ownBlock) : Keep B w w' := by
 refine ⟨hg.size, fun k o _ hk hr => (hg.block k (zL.1 hk).1 (fun e => ?_)).trans hk⟩
 rcases ho.2.2 with ⟨rfl, _⟩ | ⟨g, cap, cur, rfl, _, hgg, _⟩
 ·cases e
 cases e
 rw [hgg] at hk
 cases hk
 exact hr _ _ rfl
theorem Keep.of_set {B : Nat} (w : World) (o : Nat) (v : Value) : Keep B w (w.setCell ⟨B, o, none⟩ v) := ⟨by simp, fun k ob hk hb _ => (heap_setCell_other _ _ _ _ hk).trans hb⟩
theorem all_join {w0 W wr w6 : World} {B : Nat} {v : Value} {d : List Rx} {x : Rx} (hB : wr.heap[B]? = some (.cells #[v] 65)) (ho : OX wr (B + 1) v d) (hb0 : Below w0.heap.size w0 wr) (hw0 : w0.heap.size ≤ B) (hK : Keep B W wr) (hb : Below wr.heap.size wr w6) (hx : (-9223372036854775808 ≤ x.1 ∧ x.1 ≤ 9223372036854775807) ∧ -9223372036854775808 ≤ x.2 ∧ x.2 ≤ 9223372036854775807) (hl : d.length ≤ 1073741824) :
  ∃ a7 n7 c7 w7, (Builtin.append_ #[65, 65] 65 #[v, .slice (some ⟨w6.heap.size, 0, none⟩) 1 1]).run Tryz.prog (w6.alloc (.cells #[.int .i64 x.1, .int .i64 x.2] 69)) = .ok (.slice a7 n7 c7) w7 ∧ w6.cell? ⟨B, 0, none⟩ = some v ∧ w7.cell? ⟨B, 0, none⟩ = some v ∧ w7.frozen? ⟨B, 0, none⟩ = false ∧
   (w7.setCell ⟨B, 0, none⟩ (.slice a7 n7 c7)).heap[B]? = some (.cells #[.slice a7 n7 c7] 65) ∧ OX (w7.setCell ⟨B, 0, none⟩ (.slice a7 n7 c7)) (B + 1) (.slice a7 n7 c7) (d ++ [x]) ∧ Below w0.heap.size w0 (w7.setCell ⟨B, 0, none⟩ (.slice a7 n7 c7)) ∧ Keep B W (w7.setCell ⟨B, 0, none⟩ (.slice a7 n7 c7)) := by
 have hlt : B < wr.heap.size := (zL.1 hB).1
 have ha : Below w6.heap.size w6 (w6.alloc (.cells #[.int .i64 x.1, .int .i64 x.2] 69)) := zA _
 have hba := zS hb ha
 obtain ⟨v7, w7, hr, o7, g7⟩ := OX.join 65 (x := x) (ho.later hb) (by have := hb.size; omega) hx (by omega)
 obtain ⟨a7, c7, rfl, _⟩ := o7.shape
 have hne : ∀ j, v.ownBlock = some j → B < j := fun j hj => own_blk ho.2 hj
 have e6 : w6.heap[B]? = some (.cells #[v] 65) := ((xAA hb none).block _ hlt (by simp)).trans hB
 have eA : (w6.alloc (.cells #[.int .i64 x.1, .int .i64 x.2] 69)).heap[B]? = some (.cells #[v] 65) := ((xAA hba none).block _ hlt (by simp)).trans hB
 have e7 : w7.heap[B]? = some (.cells #[v] 65) := (g7.block _ (Nat.lt_of_lt_of_le hlt hba.size) (fun e => by have := hne _ e.symm; omega)).trans eA
 have hB7 : Below w0.heap.size w0 w7 := (zS hb0 hba).grown g7 (zS hb0 hba).size (fun j hj => by have := hne _ hj; omega)
 have hOA := (ho.later hb).later ha
 refine ⟨a7, _, c7, w7, hr, cell_of_row _ _ _ _ _ _ e6, cell_of_row _ _ _ _ _ _ e7, frozen_of_row _ _ _ _ _ e7, heap_setCell_same _ _ _ _ _ _ e7, ?_, hB7.setCell (p := ⟨B, 0, none⟩) hw0 _, ?_⟩
 ·refine o7.kept (row := some B) ⟨rfl, rfl, rfl, by simp, fun k _ hk => heap_setCell_other _ _ _ _ (fun e => hk (by rw [e]))⟩ (.inr fun e => ?_)
  have := own_blk o7.2 e
  omega
 exact ((hK.trans (Keep.of_below hba)).trans (Keep.of_own hOA g7)).trans (Keep.of_set _ _ _)
theorem allLook_any {sig : List Sy} {rs : List Rl} {t : List Int} {w0 : World} {bs B x y : Nat} {sv rv pv : Value} {vs : List (Nat × Nat)} (W : World) (hs : Sg w0 sv sig) (hr : RU w0 rv rs) (hT : Tabs w0) (hc0 : w0.cell? ⟨bs, 0, none⟩ = some sv) (hc1 : w0.cell? ⟨bs, 1, none⟩ = some rv) (hw0 : w0.heap.size ≤ B) (hok : sysB sig rs = true) (htl : t.length ≤ 1048576)
  (hv : VOk sig t (x, y)) (hvs : vs.length < t.length) (hI : AllI sig rs t B vs W) (hB : Below w0.heap.size w0 W) (hp : Is w0 pv (partV t (x, y))) :
  Calls Tryz.prog 74 #[.int .i64 (x : Int), pv, .pointer (some ⟨bs, 0, none⟩), .pointer (some ⟨B, 0, none⟩)] W fun e w' => e = .returned (.bool false) ∧ AllI sig rs t B (vs ++ [(x, y)]) w' ∧ Below w0.heap.size w0 w' ∧ Keep B W w' := by
 obtain ⟨so, sc, rfl, hso, hsc, _⟩ := Row.flat hs
 obtain ⟨ro, rc, rfl, hro, hrc, _⟩ := Row.flat hr
 unfold maxLen at hrc
 obtain ⟨v0, hB0, ho0⟩ := hI
 have HS := hid hs
 have HR := hid hr
 have HT := hid hT
 have HP := hid hp
 have HC : Hid (∀ W', Below w0.heap.size w0 W' → W'.cell? ⟨bs, 0, none⟩ = some (.slice so sig.length sc) ∧ W'.cell? ⟨bs, 1, none⟩ = some (.slice ro rs.length rc)) := fun W' hW' => ⟨(zK hW').cell _ _ hc0, (zK hW').cell _ _ hc1⟩
 obtain ⟨hah, hru⟩ := sys_right hok
 have HRu := hid hru
 have hr64 := (xGL hah).2.2.2
 have HSg := hid (xGL hah).1
 have HV := hid hv
 have hlv := redV_len sig rs t vs
 have hm64 : vs.length * rs.length ≤ 1048576 * 64 := Nat.mul_le_mul (by omega) hr64
 have HLv : Hid ((redV sig rs t vs).length ≤ 1048576 * 64) := Nat.le_trans hlv hm64
 have HO0 := hid ho0
 have HB0 := hid hB0
 have HBW := hid hB
 have hx1 : x < t.length := by have := hv.1; have := hv.2.1; simp only at *; omega
 obtain ⟨x0, x1⟩ := HC.out W hB
 clear hs hr hT hp hc0 hc1 hok hah hru hv hlv hm64 ho0 hB0 hB
 go_enter Tryz.func74, Tryz.ntmps74
 go_wp2
 go_loopw [12] (fun iv wr => ∃ (k : Nat) (v : Value), k ≤ rs.length ∧ iv = .int .i64 k ∧ wr.heap[B]? = some (.cells #[v] 65) ∧ OX wr (B + 1) v (redV sig rs t vs ++ redL sig (partV t (x, y)) x 0 (rs.take k)) ∧ Below w0.heap.size w0 wr ∧ Keep B W wr) (fun iv _ => rs.length - (intOf iv).toNat)
 case atStart => exact ⟨0, v0, Nat.zero_le _, rfl, HB0.out, by simpa [redL] using HO0.out, HBW.out, Keep.refl _ _⟩
 case round =>
  obtain ⟨k, v, hk, rfl, hBk, hok, hbk, hKk⟩ := hrel
  have HBk := hid hBk
  have HOk := hid hok
  have HWk := hid hbk
  have HKk := hid hKk
  clear hBk hok hbk hKk HO0 HB0 HBW
  by_cases hlt : k < rs.length
  ·have hd : decide ((k : Int) < (rs.length : Int)) = true := by simpa using hlt
   obtain ⟨g, off, l, r, a1, c1, a2, c2, rfl, hm, e0, e1, hi1, hi2, hl1, hl2⟩ := (HR.out.kp (zK HWk.out)).at hlt
   have hrp := rule_parts (HRu.out _ (zD hm))
   have HRp := hid hrp
   have HI1 := hid hi1
   have HI2 := hid hi2
   obtain ⟨W1, hW1⟩ : ∃ X, X = wr.alloc (.cells #[.slice a1 l.length c1, .slice a2 r.length c2] 41) := ⟨_, rfl⟩
   have hb1 : Below wr.heap.size wr W1 := by rw [hW1]; exact zA _
   have HB1 := hid hb1
   obtain ⟨z0, z1⟩ := HC.out W1 (zS HWk.out hb1)
   have f0 : W1.cell? ⟨wr.heap.size, 0, none⟩ = some (.slice a1 l.length c1) := by rw [hW1]; exact xAB rfl
   have f1 : W1.cell? ⟨wr.heap.size, 1, none⟩ = some (.slice a2 r.length c2) := by rw [hW1]; exact xAB rfl
   have HMm := hid (matches_any (.slice so sig.length sc) (.slice a1 l.length c1) (.slice a2 r.length c2) pv sig l r (partV t (x, y)) W1 (HS.out.kp (zK (zS HWk.out hb1))) (hi1.kp (zK hb1)) (hi2.kp (zK hb1)) (HP.out.kp (zK (zS HWk.out hb1))) (HT.out.below (zS HWk.out hb1)) hrp.1 (by
    have h9 := HV.out.2.2
    simp only at h9
    show termE sig (partV t (x, y)) = 0
    unfold termE partV
    rw [if_pos HSg.out]
    exact h9) (by have := hrp.2.2.1; simp only at this; omega) (by
     have h9 : (partV t (x, y)).length ≤ t.length := by unfold partV; rw [zH, zI]; omega
     omega))
   have HNx : Hid (redL sig (partV t (x, y)) x 0 (rs.take (k + 1)) = redL sig (partV t (x, y)) x 0 (rs.take k) ++ (if hitB sig l (partV t (x, y)) then [((x : Int), (k : Int))] else [])) := by
    show _ = _
    rw [xAM hm, redL_snoc, zH, Nat.min_eq_left (by omega), Nat.zero_add]
   have HLk : Hid ((redV sig rs t vs ++ redL sig (partV t (x, y)) x 0 (rs.take k)).length ≤ 1048576 * 64 + 64) := by
    have h9 := redL_len sig (partV t (x, y)) x (rs.take k) 0
    rw [zH] at h9
    have := HLv.out
    show _ ≤ _
    rw [zF]
    omega
   have z0' := z0
   rw [hW1] at z0'
   clear hm hi1 hi2 hrp hb1 z0 z1 f0 f1
   go_wp2_with fail
   rw [← hW1]
   refine HMm.out.mono ?_
   rintro e w2 ⟨rfl, hb2⟩
   have HB2 := hid (zS HB1.out hb2)
   clear hb2 z0' hW1 e0 e1 HMm
   cases hht : hitB sig l (partV t (x, y)) with
   | false =>
    have HN2 : Hid (redL sig (partV t (x, y)) x 0 (rs.take (k + 1)) = redL sig (partV t (x, y)) x 0 (rs.take k)) := by show _ = _; rw [HNx.out, hht]; simp
    have HBn : Hid (w2.heap[B]? = some (.cells #[v] 65)) := ((xAA HB2.out none).block B (zL.1 HBk.out).1 (by simp)).trans HBk.out
    clear hht
    go_wp2
    go_roundw
    case rel => exact ⟨k + 1, v, hlt, by go_num, HBn.out, by rw [HN2.out]; exact HOk.out.later HB2.out, zS HWk.out HB2.out, HKk.out.trans (Keep.of_below HB2.out)⟩
    case measure => simp only [intOf]; omega
   | true =>
    have HN2 : Hid (redV sig rs t vs ++ redL sig (partV t (x, y)) x 0 (rs.take (k + 1)) = (redV sig rs t vs ++ redL sig (partV t (x, y)) x 0 (rs.take k)) ++ [((x : Int), (k : Int))]) := by show _ = _; rw [HNx.out, hht, zR]; rfl
    obtain ⟨a7, n7, c7, w7, hr7, q6, q7, f7, hB8, ho8, hb8, hk8⟩ := all_join (x := ((x : Int), (k : Int))) HBk.out HOk.out HWk.out hw0 HKk.out HB2.out ⟨⟨by simp only; omega, by simp only; omega⟩, by simp only; omega, by simp only; omega⟩ (by have := HLk.out; omega)
    have HR7 := hid hr7
    have HB8 := hid hB8
    have HO8 := hid ho8
    have HW8 := hid hb8
    have HK8 := hid hk8
    have q6' := xAP (o := .cells #[.int .i64 (x : Int), .int .i64 (k : Int)] 69) q6
    clear hht hr7 hB8 ho8 hb8 hk8
    go_wp2_with (first
     | (at_builtin; refine xAL rfl _ _ _ rfl _ _ rfl rfl HR7.out ?_))
    go_roundw
    case rel => exact ⟨k + 1, _, hlt, by go_num, HB8.out, by rw [HN2.out]; exact HO8.out, HW8.out, HK8.out⟩
    case measure => simp only [intOf]; omega
  have hd : decide ((k : Int) < (rs.length : Int)) = false := by simpa using (show ¬ (k : Int) < (rs.length : Int) by omega)
  have HF : Hid (OX wr (B + 1) v (redV sig rs t (vs ++ [(x, y)]))) := by
   have h9 := HOk.out
   rw [zO (by omega)] at h9
   show OX _ _ _ _
   rw [redV_snoc]
   exact h9
  go_wp2
  go_ret
  exact ⟨rfl, ⟨v, HBk.out, HF.out⟩, HWk.out, HKk.out⟩
noncomputable def allL (sig : List Sy) (rs : List Rl) (t : List Int) : List Rx := (List.range t.length).flatMap fun (x : Nat) => redL sig (subL sig t (x : Int)) x 0 rs
theorem redL_key {sig : List Sy} {part : List Int} {x : Nat} : ∀ (rs : List Rl) (k : Nat), ∀ y ∈ redL sig part x k rs, y.1 = (x : Int)
 | [], _, y, h => by simp [redL] at h
 | r :: rs, k, y, h => by
  unfold redL at h
  rcases yE.1 h with h | h
  ·split at h
   ·rw [yR] at h
    rw [h]
   cases h
  exact redL_key rs (k + 1) y h
theorem fk_flat {g : Nat → List Rx} (hg : ∀ x, ∀ y ∈ g x, y.1 = (x : Int)) (k : Int) : ∀ L : List Nat, fk k (L.flatMap g) = (L.filter fun (x : Nat) => decide ((x : Int) = k)).flatMap g
 | [] => rfl
 | x :: L => by
  rw [List.flatMap_cons, fk_app, fk_flat hg k L]
  by_cases h : (x : Int) = k
  ·rw [List.filter_cons_of_pos (by simpa using h), List.flatMap_cons]
   congr 1
   unfold fk
   rw [List.filter_eq_self]
   intro y hy
   rw [yY, hg x y hy, h]
  rw [List.filter_cons_of_neg (by simpa using h)]
  have e : fk k (g x) = [] := by
   unfold fk
   rw [List.filter_eq_nil_iff]
   intro y hy
   rw [yY, hg x y hy]
   exact h
  rw [e, yH]
theorem fil_perm {g : Nat → List Rx} (hg : ∀ x, ∀ y ∈ g x, y.1 = (x : Int)) {L L' : List Nat} (h : L.Perm L') : Fil (L.flatMap g) (L'.flatMap g) := fun k => by
 rw [fk_flat hg, fk_flat hg]
 have hp := h.filter (fun (x : Nat) => decide ((x : Int) = k))
 have he : ∀ {l : List Nat}, (∀ x ∈ l, x = k.toNat) → l = List.replicate l.length k.toNat := fun {l} hl => List.eq_replicate_iff.2 ⟨rfl, hl⟩
 have hm : ∀ (l : List Nat), ∀ x ∈ l.filter (fun (x : Nat) => decide ((x : Int) = k)), x = k.toNat := fun l x hx => by
  have h9 := (List.mem_filter.1 hx).2
  rw [yY] at h9
  omega
 rw [he (hm L), he (hm L'), hp.length_eq]
theorem up_flat {g : Nat → List Rx} (hg : ∀ x, ∀ y ∈ g x, y.1 = (x : Int)) {L : List Nat} (h : L.Pairwise (· < ·)) : UpS (L.flatMap g) := by
 unfold UpS
 rw [List.pairwise_flatMap]
 refine ⟨fun x _ => ?_, h.imp fun {a b} hab y hy z hz => ?_⟩
 ·refine List.pairwise_iff_getElem.2 fun i j hi hj _ => ?_
  rw [hg x _ (List.getElem_mem hi), hg x _ (List.getElem_mem hj)]
  exact Int.le_refl _
 rw [hg a y hy, hg b z hz]
 omega
theorem flat_congr {α β : Type} {l : List α} {f g : α → List β} (h : ∀ a ∈ l, f a = g a) : l.flatMap f = l.flatMap g := by
 unfold List.flatMap
 rw [List.map_congr_left h]
theorem part_sub {sig : List Sy} {t : List Int} (ht : termE sig t = 0) {v : Nat × Nat} (h : VOk sig t v) : partV t v = subL sig t v.1 := by
 obtain ⟨h1, h2, h3⟩ := h
 have e : t = t.take v.1 ++ (partV t v ++ t.drop v.2) := by
  unfold partV
  have e1 : (t.drop v.1).take (v.2 - v.1) ++ t.drop v.2 = t.drop v.1 := by
   have := zQ (v.2 - v.1) (t.drop v.1)
   rw [yS, show v.1 + (v.2 - v.1) = v.2 by omega] at this
   exact this
  rw [e1, zQ]
 have h9 := (sub_at ht h3 e).2
 rw [zH, Nat.min_eq_left (by omega)] at h9
 exact h9.symm
theorem all_eq {sig : List Sy} {rs : List Rl} {t : List Int} (ht : termE sig t = 0) {vs : List (Nat × Nat)} (h : Pv sig t 0 vs) {M : List Rx} (hu : UpS M) (hf : Fil M (redV sig rs t vs)) : M = allL sig rs t := by
 have hg : ∀ x : Nat, ∀ y ∈ redL sig (subL sig t (x : Int)) x 0 rs, y.1 = (x : Int) := fun x y hy => redL_key rs 0 y hy
 have hok := pv_ok h t [] [] (by simp) rfl
 have e : redV sig rs t vs = (vs.map Prod.fst).flatMap fun (x : Nat) => redL sig (subL sig t (x : Int)) x 0 rs := by
  unfold redV
  rw [List.flatMap_map]
  refine flat_congr fun v hv => ?_
  rw [part_sub ht (hok v hv)]
 refine up_one hu (up_flat hg List.pairwise_lt_range) (hf.trans ?_)
 rw [e]
 refine fil_perm hg ?_
 rw [List.range_eq_range']
 exact pv_perm h
theorem enterAll : ∀ args w, (callFunc 74 args).run Tryz.prog w = .ok (.enter 74 args) w := enters_of Tryz.func74 (by kernel_rfl) rfl
theorem xDV {sig : List Sy} {rs : List Rl} {t : List Int} (h : stepE sig rs t = 0) : sysB sig rs = true ∧ termE sig t = 0 := by
 unfold stepE at h
 by_cases h0 : (sysE sig rs).1 = 0
 ·rw [if_pos h0] at h
  exact ⟨by unfold sysB; exact decide_eq_true h0, h⟩
 rw [if_neg h0] at h
 exact absurd h h0
theorem sig_arOk {sig : List Sy} (h : sigE sig = 0) : ArOk sig := sigE_ok h
noncomputable def allR (sig : List Sy) (rs : List Rl) (t : List Int) : List Rx := if stepE sig rs t = 0 then allL sig rs t else []
theorem all_any (sv rv tv : Value) (sig : List Sy) (rs : List Rl) (t : List Int) (w : World) (hs : Sg w sv sig) (hr : RU w rv rs) (ht : Is w tv t) (hT : Tabs w) (htl : t.length ≤ 1048576) :
  Calls Tryz.prog 32 #[.agg #[sv, rv], tv] w fun e w' => ∃ v', e = .returned v' ∧ OX w' w.heap.size v' (allR sig rs t) ∧ Below w.heap.size w w' := by
 obtain ⟨so, sc, rfl, hso, hsc, _⟩ := Row.flat hs
 obtain ⟨ro, rc, rfl, hro, hrc, _⟩ := Row.flat hr
 have HS := hid hs
 have HR := hid hr
 have HTt := hid ht
 have HT := hid hT
 clear hs hr ht hT
 obtain ⟨w0, hw0⟩ : ∃ X, X = w.alloc (.cells #[.slice so sig.length sc, .slice ro rs.length rc] 64) := ⟨_, rfl⟩
 have C0 : Hid (Below w.heap.size w w0) := by rw [hw0]; exact zA _
 have HC : Hid (∀ W, Below w0.heap.size w0 W → W.cell? ⟨w.heap.size, 0, none⟩ = some (.slice so sig.length sc) ∧ W.cell? ⟨w.heap.size, 1, none⟩ = some (.slice ro rs.length rc)) := fun W hW => by
  have hk := zK hW
  rw [hw0] at hk
  exact ⟨hk.cell _ _ (xAB rfl), hk.cell _ _ (xAB rfl)⟩
 obtain ⟨R, hR⟩ : ∃ R, R = allR sig rs t := ⟨_, rfl⟩
 rw [← hR]
 have HRr := hid hR
 clear hR
 go_enter Tryz.func32, Tryz.ntmps32
 go_wp2_with fail
 rw [← hw0]
 clear hw0
 refine (stepCheck_any _ _ _ sig rs t w0 (HS.out.kp (zK C0.out)) (HR.out.kp (zK C0.out)) (HTt.out.kp (zK C0.out)) (HT.out.below C0.out) (by omega)).mono ?_
 rintro e w1 ⟨rfl, hb1⟩
 have C1 := hid (zS C0.out hb1)
 have D1 := hid hb1
 clear hb1
 by_cases he : stepE sig rs t = 0
 ·rw [he]
  obtain ⟨hok, hte⟩ := xDV he
  have HA : Hid (R = allL sig rs t) := by show _ = _; rw [HRr.out]; unfold allR; rw [if_pos he]
  obtain ⟨vs, hpv⟩ := pv_any (sig_arOk (xAE hte).1) t.length t 0 (Nat.le_refl _) (xAE hte).2
  obtain ⟨x0, x1⟩ := HC.out w1 D1.out
  obtain ⟨W2, hW2⟩ : ∃ X, X = w1.alloc (.cells #[.slice none 0 0] 65) := ⟨_, rfl⟩
  have b2 : Below w1.heap.size w1 W2 := by rw [hW2]; exact zA _
  have hi2 : AllI sig rs t w1.heap.size [] W2 := ⟨_, by rw [hW2]; exact yU _ _, ⟨fun x hx => (by simp [redV] at hx), World.ownsRow_nil _ _ _ _⟩⟩
  have hLk : Lk sig t w1 w1.heap.size 74 #[.pointer (some ⟨w.heap.size, 0, none⟩), .pointer (some ⟨w1.heap.size, 0, none⟩)] (fun _ => false) (AllI sig rs t w1.heap.size) :=
   ⟨fun vs x y pv W hv hvs hI hB hp => allLook_any W (HS.out.kp (zK C1.out)) (HR.out.kp (zK C1.out)) (HT.out.below C1.out) x0 x1 (Nat.le_refl _) hok htl hv hvs hI hB hp, fun vs W W' h1 h2 => h1.later h2, enterAll⟩
  have HGo := hid (goThrough_any hLk _ _ W2 (HS.out.kp (zK C1.out)) (HTt.out.kp (zK C1.out)) (by omega) hpv hi2 b2 (by rw [hW2]; simp))
  have HPv := hid hpv
  have HR64 := hid (xGL (sys_right hok).1).2.2.2
  have HTe := hid hte
  have y0 := (zK b2).cell _ _ x0
  rw [hW2] at y0
  clear he hok hte hpv hi2 hLk b2 x0 x1
  go_wp2_with fail
  rw [← hW2]
  clear hW2 y0
  refine HGo.out.mono ?_
  rintro e w3 ⟨rfl, ⟨v3, hb3, ho3⟩, hB3, hK3⟩
  have C3 := hid (zS C1.out hB3)
  have D3 := hid hB3
  have q3 : w3.cell? ⟨w1.heap.size, 0, none⟩ = some v3 := cell_of_row _ _ _ _ _ _ hb3
  have HB3 := hid hb3
  have e3 : upto (fun _ => false) vs = vs := upto_all (by simp)
  rw [e3] at ho3
  have HO3 := hid ho3
  have hl3 := redV_len sig rs t vs
  have hsh := ho3.shape
  clear hb3 hB3 hK3 ho3 e3 HGo
  obtain ⟨a3, c3, hv3, _⟩ := hsh
  have hm3 : (redV sig rs t vs).length ≤ 1152921504606846976 := by
   have h9 := pv_len HPv.out
   have h8 := HR64.out
   have : vs.length * rs.length ≤ 1048576 * 64 := Nat.mul_le_mul (by omega) h8
   omega
  generalize (redV sig rs t vs).length = N3 at hv3 hm3
  subst hv3
  clear hl3
  go_wp2_with fail
  refine (sortStable_any (w1.heap.size + 1) _ _ w3 HO3.out (by rw [HO3.out.len]; exact hm3)).mono ?_
  rintro e w4 ⟨M, rfl, hM, o4, g4⟩
  have hMe := all_eq HTe.out HPv.out hM.1 hM.2
  rw [← HA.out] at hMe
  subst hMe
  have HB4 : Hid (Below w.heap.size w w4) := C3.out.grown g4 C3.out.size (fun j hj => by have := own_blk HO3.out.2 hj; have := C1.out.size; omega)
  have hb4 : w4.heap[w1.heap.size]? = some (.cells #[.slice a3 N3 c3] 65) := (g4.block _ (zL.1 HB3.out).1 (fun e => by have := own_blk HO3.out.2 e.symm; omega)).trans HB3.out
  have q4 : w4.cell? ⟨w1.heap.size, 0, none⟩ = some (.slice a3 N3 c3) := cell_of_row _ _ _ _ _ _ hb4
  have HO4 : Hid (OX w4 w.heap.size (.slice a3 N3 c3) M) := by
   refine ⟨o4.1, o4.2.1, ?_⟩
   rcases o4.2.2 with h9 | ⟨g, cap, cur, hv, hbg, r⟩
   ·exact .inl h9
   exact .inr ⟨g, cap, cur, hv, by have := C1.out.size; omega, r⟩
  clear hM o4 g4 hb4 q3
  go_wp2
  go_ret
  exact ⟨_, rfl, HO4.out, HB4.out⟩
 have HA : Hid (R = []) := by show _ = _; rw [HRr.out]; unfold allR; rw [if_neg he]
 clear HRr
 generalize stepE sig rs t = E at he ⊢
 have hne : (E != 0) = true := by rw [bne_iff_ne]; exact he
 clear he
 go_wp2
 go_ret
 exact ⟨_, rfl, by rw [HA.out]; exact ⟨fun x hx => (by simp at hx), World.ownsRow_nil _ _ _ _⟩, C1.out⟩
def replE (sig : List Sy) (t : List Int) (p : Int) (u : List Int) : Int :=
 if termE sig t = 0 then (if rowE sig u = 0 then (if placeE sig t p = 0 then (if 512 < p.toNat + u.length + (t.length - (p.toNat + nodes sig t p.toNat)) then 2 else 0) else placeE sig t p) else rowE sig u) else termE sig t
def replL (sig : List Sy) (t : List Int) (p : Int) (u : List Int) : List Int := if replE sig t p u = 0 then t.take p.toNat ++ (u ++ t.drop (p.toNat + nodes sig t p.toNat)) else []
theorem repl_none {sig : List Sy} {t u : List Int} {p : Int} (h : replE sig t p u ≠ 0) : replL sig t p u = [] := by
 unfold replL
 rw [if_neg h]
theorem repl_ok {sig : List Sy} {t u : List Int} {k : Nat} (ht : termE sig t = 0) (hu : rowE sig u = 0) (hk : k < t.length) :
  replE sig t k u = (if 512 < k + u.length + (t.length - (k + nodes sig t k)) then 2 else 0) ∧ replL sig t k u = (if 512 < k + u.length + (t.length - (k + nodes sig t k)) then [] else t.take k ++ (u ++ t.drop (k + nodes sig t k))) := by
 have h1 : replE sig t k u = if 512 < k + u.length + (t.length - (k + nodes sig t k)) then 2 else 0 := by
  unfold replE
  rw [if_pos ht, if_pos hu, if_pos (place_in ht hk), Int.toNat_natCast]
 refine ⟨h1, ?_⟩
 unfold replL
 rw [h1, Int.toNat_natCast]
 by_cases h2 : 512 < k + u.length + (t.length - (k + nodes sig t k))
 ·rw [if_pos h2, if_pos h2, if_neg (by omega)]
 rw [if_neg h2, if_neg h2, if_pos rfl]
theorem Is.tail {w : World} {b off cap k : Nat} {t : List Int} (h : Is w (.slice (some ⟨b, off, none⟩) t.length cap) t) (hk : k ≤ t.length) : Is w (.slice (some ⟨b, if cap = k then off else off + k, none⟩) (t.length - k) (cap - k)) (t.drop k) := by
 by_cases he : k = t.length
 ·subst he
  rw [List.drop_length, Nat.sub_self]
  obtain ⟨ao, cap', e, h1, h2, h3⟩ := h
  simp only [zZ, true_and] at e
  obtain ⟨_, rfl⟩ := e
  exact Row.nil (by omega)
 have h1 : t.length ≤ cap := by
  obtain ⟨ao, cap', e, h1, _⟩ := h
  simp only [zZ, true_and] at e
  obtain ⟨_, rfl⟩ := e
  exact h1
 have h2 := h.mid (k := k) (m := t.length - k) (by omega) (by omega)
 rw [zO (by rw [zI]; exact Nat.le_refl _)] at h2
 rw [if_neg (by omega)]
 exact h2
theorem Is.head {w : World} {b off cap k : Nat} {t : List Int} (h : Is w (.slice (some ⟨b, off, none⟩) t.length cap) t) (hk : k ≤ t.length) : Is w (.slice (some ⟨b, off, none⟩) k cap) (t.take k) := by
 obtain ⟨ao, cap', e, h1, h2, h3⟩ := h
 simp only [zZ, true_and] at e
 obtain ⟨rfl, rfl⟩ := e
 have hl : (t.take k).length = k := by rw [zH]; omega
 refine ⟨some ⟨b, off, none⟩, cap, by rw [hl], by omega, h2, fun h0 => ?_⟩
 rw [hl] at h0
 obtain ⟨g, o, e, hg, hE⟩ := h3 (by omega)
 simp only [zX, Addr.mk.injEq, and_true] at e
 obtain ⟨rfl, rfl⟩ := e
 refine ⟨b, off, rfl, hg, fun j x hj => hE j x ?_⟩
 have := (zB.1 hj).1
 rw [List.getElem?_take_of_lt (by omega)] at hj
 exact hj
theorem replace_any (sv v uv : Value) (sig : List Sy) (t u : List Int) (p : Int) (w : World) (hs : Sg w sv sig) (h : Is w v t) (hu : Is w uv u) (hT : Tabs w) (hb : t.length * 8 ≤ 140737488351232) (hbu : u.length * 8 ≤ 140737488351232) (hp1 : -9223372036854775808 ≤ p) (hp2 : p ≤ 9223372036854775807) :
  Calls Tryz.prog 81 #[sv, v, .int .i64 p, uv] w fun e w' => ∃ v', e = .returned (.tuple #[v', .int .i64 (replE sig t p u)]) ∧ OwI w' w.heap.size v' (replL sig t p u) ∧ Below w.heap.size w w' := by
 obtain ⟨ao, cap, rfl, hao, hca, _⟩ := Row.flat h
 obtain ⟨uo, uc, rfl, huo, hcu, _⟩ := Row.flat hu
 unfold maxLen at hca hcu
 have HS := hid hs
 have HI := hid h
 have HU := hid hu
 have HT := hid hT
 have HP := hid (And.intro hp1 hp2)
 clear hs h hT hp1 hp2 hu
 go_enter Tryz.func81, Tryz.ntmps81
 go_wp2_with fail
 refine (xBP sv _ sig t w HS.out HI.out HT.out (by omega)).mono ?_
 rintro e w1 ⟨rfl, hb1⟩
 have HB1 := hid hb1
 clear hb1
 by_cases hte : termE sig t = 0
 ·have HTe := hid hte
  have HPl : Hid (placeE sig t p = (endP sig t p).2) := by show _ = _; unfold placeE; rw [if_pos hte]
  have ha := sigE_ok (xAE hte).1
  have HA := hid ha
  rw [hte]
  clear hte ha
  go_wp2_with fail
  refine (checkRow_any sv _ sig u w1 (HS.out.kp (zK HB1.out)) (HU.out.kp (zK HB1.out)) HA.out hbu).mono ?_
  rintro e w2 ⟨rfl, hw2⟩
  have hw8 := hw2.symm
  subst hw8
  clear hw2
  by_cases hue : rowE sig u = 0
  ·have HUe := hid hue
   rw [hue]
   clear hue
   go_wp2_with fail
   refine (endOf_any sv _ sig t p w1 (HS.out.kp (zK HB1.out)) (HI.out.kp (zK HB1.out)) HA.out (by omega) HP.out.1 HP.out.2).mono ?_
   rintro e w2 ⟨rfl, hw2⟩
   have hw8 := hw2.symm
   subst hw8
   clear hw2
   by_cases he : (endP sig t p).2 = 0
   ·have hpl := HPl.out.trans he
    obtain ⟨_, hrt, k, _, hk, hkl, _⟩ := placeE_ok hpl
    subst hk
    obtain ⟨n1, n2, n3, _⟩ := at_place HA.out hrt hkl
    obtain ⟨r1, r2⟩ := repl_ok HTe.out HUe.out hkl
    have HR1 := hid r1
    have HR2 := hid r2
    rw [place_end HTe.out hkl]
    obtain ⟨n, hn⟩ : ∃ n, n = nodes sig t k := ⟨_, rfl⟩
    rw [← hn] at n1 n2 HR1 HR2 ⊢
    obtain ⟨b, off, c0, rfl, _⟩ := HI.out.at (k := 0) (by omega)
    have hw1 : IntKind.i64.wrap ((k : Int) + (u.length : Int)) = (k : Int) + (u.length : Int) := yA _ ⟨by omega, by omega⟩
    have hw2 : IntKind.i64.wrap ((k : Int) + (u.length : Int) + (t.length : Int)) = (k : Int) + (u.length : Int) + (t.length : Int) := yA _ ⟨by omega, by omega⟩
    have hw3 : IntKind.i64.wrap ((k : Int) + (u.length : Int) + (t.length : Int) - ((k : Int) + (n : Int))) = ((k + u.length + (t.length - (k + n)) : Nat) : Int) := by rw [yA _ ⟨by omega, by omega⟩]; omega
    clear hpl he hrt n3 r1 r2 hn
    by_cases hbig : 512 < k + u.length + (t.length - (k + n))
    ·rw [if_pos hbig] at HR1 HR2
     have hbg : (512 : Int) < ((k + u.length + (t.length - (k + n)) : Nat) : Int) := by omega
     go_wp2
     go_ret2
     exact ⟨_, by rw [HR1.out]; rfl, by rw [HR2.out]; exact nilI _ _, HB1.out⟩
    rw [if_neg hbig] at HR1 HR2
    have hbg : ¬ (512 : Int) < ((k + u.length + (t.length - (k + n)) : Nat) : Int) := by omega
    have hkc : k ≤ cap := by omega
    have hknc : k + n ≤ cap := by omega
    have HCon : Hid (∀ x3 : Value, Is w1 x3 (t.drop (k + n)) → Calls Tryz.prog 102 #[.slice (some ⟨w1.heap.size, 0, none⟩) 3 3] (w1.alloc (.cells #[.slice (some ⟨b, off, none⟩) k cap, .slice uo u.length uc, x3] 30)).drew
      fun e w' => ∃ v', e = .returned v' ∧ OwI w' w1.heap.size v' (t.take k ++ (u ++ t.drop (k + n))) ∧ Below w1.heap.size w1 w') := by
     intro x3 h3
     have hbl : Below w1.heap.size w1 (w1.alloc (.cells #[.slice (some ⟨b, off, none⟩) k cap, .slice uo u.length uc, x3] 30)).drew := zS (zA _) (xAF _)
     have hkp := zK hbl
     have i1 := ((HI.out.kp (zK HB1.out)).head (k := k) (by omega)).kp hkp
     have i2 := (HU.out.kp (zK HB1.out)).kp hkp
     have i3 := h3.kp hkp
     have hc : ∀ (j : Nat) (x : Value), #[Value.slice (some ⟨b, off, none⟩) k cap, .slice uo u.length uc, x3][j]? = some x → (w1.alloc (.cells #[.slice (some ⟨b, off, none⟩) k cap, .slice uo u.length uc, x3] 30)).drew.cell? ⟨w1.heap.size, j, none⟩ = some x := fun j x hj => xAB hj
     have hl1 : (t.take k).length * 8 ≤ 140737488351232 := by rw [zH]; omega
     have hl3 : (t.drop (k + n)).length * 8 ≤ 140737488351232 := by rw [zI]; omega
     have hrs : Rs (w1.alloc (.cells #[.slice (some ⟨b, off, none⟩) k cap, .slice uo u.length uc, x3] 30)).drew (.slice (some ⟨w1.heap.size, 0, none⟩) 3 3) [t.take k, u, t.drop (k + n)] :=
      rs_lit (p := [t.take k, u, t.drop (k + n)]) (by show w1.heap.size < (w1.alloc _).heap.size; simp) (by simp) ⟨⟨hl1, _, hc 0 _ rfl, i1⟩, ⟨hbu, _, hc 1 _ rfl, i2⟩, ⟨hl3, _, hc 2 _ rfl, i3⟩, trivial⟩
     refine (concat_any _ _ _ hrs (by simp only [yW, List.map_nil, List.sum_cons, List.sum_nil, zH, zI]; omega)).mono ?_
     rintro e w9 ⟨v9, rfl, ho9, hb9⟩
     refine ⟨v9, rfl, ?_, zS hbl hb9⟩
     have := ho9.mono hbl.size
     simpa using this
    have hI3 := (HI.out.kp (zK HB1.out)).tail (k := k + n) n2
    have HC3 := hid (HCon.out _ hI3)
    clear hI3 HCon
    by_cases hcn : cap = k + n
    ·subst hcn
     rw [if_pos rfl, Nat.sub_self, show t.length - (k + n) = 0 by omega] at HC3
     go_wp2_with fail
     clear hw1 hw2 hw3 hbg hbig
     go_region_with (first
      | (refine HC3.out.mono ?_; rintro e w9 ⟨v9, rfl, ho9, hb9⟩; have HO9 := hid (ho9.mono HB1.out.size); have HB9 := hid (zS HB1.out hb9); clear ho9 hb9))
     all_goals (go_wp2; go_ret2; exact ⟨_, by rw [HR1.out]; rfl, by rw [HR2.out]; exact HO9.out, HB9.out⟩)
    rw [if_neg hcn] at HC3
    go_wp2_with fail
    clear hw1 hw2 hw3 hbg hbig
    go_region_with (first
     | (refine HC3.out.mono ?_; rintro e w9 ⟨v9, rfl, ho9, hb9⟩; have HO9 := hid (ho9.mono HB1.out.size); have HB9 := hid (zS HB1.out hb9); clear ho9 hb9))
    all_goals (go_wp2; go_ret2; exact ⟨_, by rw [HR1.out]; rfl, by rw [HR2.out]; exact HO9.out, HB9.out⟩)
   have HR1 : Hid (replE sig t p u = (endP sig t p).2) := by show _ = _; unfold replE; rw [if_pos HTe.out, if_pos HUe.out, if_neg (fun h => he (HPl.out.symm.trans h)), HPl.out]
   have HR2 := hid (repl_none (fun h => he (HR1.out.symm.trans h)))
   generalize (endP sig t p).2 = E at he HPl HR1 ⊢
   generalize (endP sig t p).1 = E1
   have heb : (E != 0) = true := by simpa using he
   go_wp2
   go_ret2
   exact ⟨_, by rw [HR1.out]; rfl, by rw [HR2.out]; exact nilI _ _, HB1.out⟩
  have HR1 : Hid (replE sig t p u = rowE sig u) := by show _ = _; unfold replE; rw [if_pos HTe.out, if_neg hue]
  have HR2 := hid (repl_none (fun h => hue (HR1.out.symm.trans h)))
  generalize rowE sig u = E at hue HR1 ⊢
  have heb : (E != 0) = true := by simpa using hue
  go_wp2
  go_ret2
  exact ⟨_, by rw [HR1.out]; rfl, by rw [HR2.out]; exact nilI _ _, HB1.out⟩
 have HR1 : Hid (replE sig t p u = termE sig t) := by show _ = _; unfold replE; rw [if_neg hte]
 have HR2 := hid (repl_none (fun h => hte (HR1.out.symm.trans h)))
 generalize termE sig t = E at hte HR1 ⊢
 have heb : (E != 0) = true := by simpa using hte
 go_wp2
 go_ret2
 exact ⟨_, by rw [HR1.out]; rfl, by rw [HR2.out]; exact nilI _ _, HB1.out⟩
noncomputable def hitBd (sig : List Sy) (l t : List Int) : List Bd := @dite _ (Hit sig l t) (Classical.propDecidable _) (fun h => bindsL (Classical.choose h) l) (fun _ => [])
theorem hitBd_eq {sig : List Sy} {l t : List Int} {f : Int → Option (List Int)} (hf : Rt sig f) (hs : Sm f l t) : hitBd sig l t = bindsL f l := by
 unfold hitBd
 have h : Hit sig l t := ⟨f, hf, hs⟩
 rw [dif_pos h]
 have h9 := Classical.choose_spec h
 exact binds_unique h9.1 hf h9.2 hs
noncomputable def doK (sig : List Sy) (t : List Int) (p : Int) (r : Rl) : List Int × Int :=
 if hitB sig r.1 (subL sig t p) = true then (if applyE sig (hitBd sig r.1 (subL sig t p)) r.2 = 0 then (replL sig t p (applyL sig (hitBd sig r.1 (subL sig t p)) r.2), replE sig t p (applyL sig (hitBd sig r.1 (subL sig t p)) r.2)) else ([], applyE sig (hitBd sig r.1 (subL sig t p)) r.2)) else ([], 80)
noncomputable def doR (sig : List Sy) (rs : List Rl) (t : List Int) (p k : Int) : List Int × Int :=
 if stepE sig rs t = 0 then (if placeE sig t p = 0 then (if k < 0 then ([], 1) else match rs[k.toNat]? with | none => ([], 1) | some r => doK sig t p r) else ([], placeE sig t p)) else ([], stepE sig rs t)
theorem apply_few (sig : List Sy) (S : List Bd) (r : List Int) : (applyL sig S r).length ≤ 512 := by
 unfold applyL
 split
 ·split
  ·rw [(lay_eq (bnd S) r).2]
   split
   ·simp
   omega
  simp
 simp
theorem sub_term {sig : List Sy} {t : List Int} {p : Int} (h : placeE sig t p = 0) : termE sig (subL sig t p) = 0 := by
 have ht := place_term h
 obtain ⟨_, _, k, m, rfl, _, _, _, _, h5, h6⟩ := placeE_ok h
 rw [h5]
 unfold termE
 rw [if_pos (xAE ht).1]
 exact h6
theorem nil_own (w : World) (base : Nat) : OwI w base (.slice none 0 0) [] := ⟨fun k x hk => (by simp at hk), World.ownsRow_nil _ _ _ _⟩
theorem do_ret {a b : Int} {L M : List Int} (h : (M, b) = (L, a)) {w : World} {base : Nat} {v : Value} (ho : OwI w base v L) : Ending.returned (.tuple #[v, .int .i64 a]) = .returned (.tuple #[v, .int .i64 (M, b).2]) ∧ OwI w base v (M, b).1 := by
 cases h
 exact ⟨rfl, ho⟩
theorem do_any (sv rv tv : Value) (sig : List Sy) (rs : List Rl) (t : List Int) (p k : Int) (w : World) (hs : Sg w sv sig) (hr : RU w rv rs) (ht : Is w tv t) (hT : Tabs w) (htl : t.length ≤ 1048576) (hp1 : -9223372036854775808 ≤ p) (hp2 : p ≤ 9223372036854775807) (hk1 : -9223372036854775808 ≤ k) (hk2 : k ≤ 9223372036854775807) :
  Calls Tryz.prog 33 #[.agg #[sv, rv], tv, .agg #[.int .i64 p, .int .i64 k]] w fun e w' => ∃ v', e = .returned (.tuple #[v', .int .i64 (doR sig rs t p k).2]) ∧ OwI w' w.heap.size v' (doR sig rs t p k).1 ∧ Below w.heap.size w w' := by
 obtain ⟨so, sc, rfl, hso, hsc, _⟩ := Row.flat hs
 obtain ⟨ro, rc, rfl, hro, hrc, _⟩ := Row.flat hr
 unfold maxLen at hrc
 have HS := hid hs
 have HR := hid hr
 have HTt := hid ht
 have HT := hid hT
 clear hs hr ht hT
 obtain ⟨w0, hw0⟩ : ∃ X, X = (w.alloc (.cells #[.slice so sig.length sc, .slice ro rs.length rc] 64)).alloc (.cells #[.int .i64 p, .int .i64 k] 69) := ⟨_, rfl⟩
 have C0 : Hid (Below w.heap.size w w0) := by rw [hw0]; exact zS (zA _) (zA _)
 have HC : Hid (∀ W, Below w0.heap.size w0 W → (W.cell? ⟨w.heap.size, 0, none⟩ = some (.slice so sig.length sc) ∧ W.cell? ⟨w.heap.size, 1, none⟩ = some (.slice ro rs.length rc)) ∧ W.cell? ⟨w.heap.size + 1, 0, none⟩ = some (.int .i64 p) ∧ W.cell? ⟨w.heap.size + 1, 1, none⟩ = some (.int .i64 k)) := fun W hW => by
  have hk := zK hW
  rw [hw0] at hk
  have e9 : w.heap.size + 1 = (w.alloc (.cells #[.slice so sig.length sc, .slice ro rs.length rc] 64)).heap.size := (World.size_alloc _ _).symm
  rw [e9]
  exact ⟨⟨hk.cell _ _ (xAP (xAB rfl)), hk.cell _ _ (xAP (xAB rfl))⟩, hk.cell _ _ (xAB rfl), hk.cell _ _ (xAB rfl)⟩
 obtain ⟨R, hR⟩ : ∃ R, R = doR sig rs t p k := ⟨_, rfl⟩
 rw [← hR]
 have HD := hid hR
 clear hR
 obtain ⟨RM, RB⟩ := R
 unfold doR at HD
 go_enter Tryz.func33, Tryz.ntmps33
 go_wp2_with fail
 rw [← hw0]
 clear hw0
 refine (stepCheck_any _ _ _ sig rs t w0 (HS.out.kp (zK C0.out)) (HR.out.kp (zK C0.out)) (HTt.out.kp (zK C0.out)) (HT.out.below C0.out) (by omega)).mono ?_
 rintro e w1 ⟨rfl, hb1⟩
 have C1 := hid (zS C0.out hb1)
 have D1 := hid hb1
 clear hb1
 by_cases he : stepE sig rs t = 0
 ·obtain ⟨hok, hte⟩ := xDV he
  rw [he]
  rw [if_pos he] at HD
  have HOk := hid (sys_right hok).2
  have HTe := hid hte
  clear he hok hte
  obtain ⟨⟨x0, x1⟩, y0, y1⟩ := HC.out w1 D1.out
  go_wp2_with fail
  refine (sub_any _ _ sig t p w1 (HS.out.kp (zK C1.out)) (HTt.out.kp (zK C1.out)) (HT.out.below C1.out) (by omega) hp1 hp2).mono ?_
  rintro e w2 ⟨v2, rfl, ho2, hb2⟩
  have C2 := hid (zS C1.out hb2)
  have D2 := hid (zS D1.out hb2)
  have HO2 := hid ho2
  clear ho2 hb2 x0 x1 y0 y1
  by_cases hpl : placeE sig t p = 0
  ·rw [hpl]
   rw [if_pos hpl] at HD
   have HPl := hid hpl
   clear hpl
   obtain ⟨⟨x0, x1⟩, y0, y1⟩ := HC.out w2 D2.out
   by_cases hk0 : k < 0
   ·have hd0 : decide (k < 0) = true := by simpa using hk0
    rw [if_pos hk0] at HD
    go_wp2
    go_ret2
    obtain ⟨q1, q2⟩ := do_ret HD.out (nil_own _ _)
    exact ⟨_, q1, q2, C2.out⟩
   have hd0 : decide (k < 0) = false := by simpa using hk0
   rw [if_neg hk0] at HD
   obtain ⟨K, rfl⟩ : ∃ K : Nat, k = (K : Int) := ⟨k.toNat, by omega⟩
   rw [Int.toNat_natCast] at HD
   by_cases hkl : K < rs.length
   ·have hd1 : decide ((K : Int) ≥ (rs.length : Int)) = false := by simpa using (show ¬ (K : Int) ≥ (rs.length : Int) by omega)
    obtain ⟨g, off, l, r, a1, c1, a2, c2, rfl, hm, e0, e1, hi1, hi2, hl1, hl2⟩ := (HR.out.kp (zK C2.out)).at hkl
    rw [hm] at HD
    simp only at HD
    unfold doK at HD
    have hrp := rule_parts (HOk.out _ (zD hm))
    have HRp := hid hrp
    have HI1 := hid hi1
    have HI2 := hid hi2
    obtain ⟨W3, hW3⟩ : ∃ X, X = w2.alloc (.cells #[.slice a1 l.length c1, .slice a2 r.length c2] 41) := ⟨_, rfl⟩
    have b3 : Hid (Below w2.heap.size w2 W3) := by rw [hW3]; exact zA _
    have C3 := hid (zS C2.out b3.out)
    have D3 := hid (zS D2.out b3.out)
    have HF : Hid (∀ W, Below W3.heap.size W3 W → W.cell? ⟨w2.heap.size, 0, none⟩ = some (.slice a1 l.length c1) ∧ W.cell? ⟨w2.heap.size, 1, none⟩ = some (.slice a2 r.length c2)) := fun W hW => by
     have hk := zK hW
     rw [hW3] at hk
     exact ⟨hk.cell _ _ (xAB rfl), hk.cell _ _ (xAB rfl)⟩
    have hsl : (subL sig t p).length ≤ t.length := by
     unfold subL
     split
     ·rw [zH, zI]; omega
     simp
    have z0 := (zK b3.out).cell _ _ x0
    rw [hW3] at z0
    clear hm hi1 hi2 hrp
    go_wp2_with fail
    rw [← hW3]
    clear hW3 z0 x0 x1 y0 y1 e0 e1
    refine (match_any _ _ _ sig l (subL sig t p) W3 (HS.out.kp (zK C3.out)) (HI1.out.kp (zK b3.out)) (HO2.out.is.kp (zK b3.out)) (HT.out.below C3.out) (by have := HRp.out.2.2.1; omega) (by omega)).mono ?_
    rintro e w4 ⟨hb4, hres⟩
    have C4 := hid (zS C3.out hb4)
    have D4 := hid (zS D3.out hb4)
    have E4 := hid hb4
    have HSt : Hid (termE sig (subL sig t p) = 0) := sub_term HPl.out
    clear hb4
    rcases hres with ⟨rfl, hno⟩ | ⟨v4, f, rfl, _, _, hf, hsm, hob⟩
    ·have hh : hitB sig l (subL sig t p) = false := hitB_false fun ⟨f, hf, h⟩ => by
      rcases hno with h9 | h9 | h9
      ·exact h9 HRp.out.1
      ·exact h9 HSt.out
      exact h9 f hf h
     rw [hh, if_neg (by simp)] at HD
     clear hno hh
     go_wp2
     go_ret2
     obtain ⟨q1, q2⟩ := do_ret HD.out (nil_own _ _)
     exact ⟨_, q1, q2, C4.out⟩
    rw [hitB_true ⟨f, hf, hsm⟩, if_pos rfl, hitBd_eq hf hsm] at HD
    have HOb := hid hob.bs
    clear hf hsm hob
    generalize bindsL f l = S at HD HOb
    obtain ⟨⟨x0, x1⟩, y0, y1⟩ := HC.out w4 D4.out
    obtain ⟨f0, f1⟩ := HF.out w4 E4.out
    go_wp2_with fail
    refine (apply_any _ _ _ sig S r w4 (HS.out.kp (zK C4.out)) HOb.out (HI2.out.kp (zK (zS b3.out E4.out))) (HT.out.below C4.out) hl2).mono ?_
    rintro e w5 ⟨v5, rfl, ho5, hb5⟩
    have C5 := hid (zS C4.out hb5)
    have D5 := hid (zS D4.out hb5)
    have HO5 := hid ho5
    clear ho5 hb5 x0 x1 y0 y1 f0 f1
    by_cases hae : applyE sig S r = 0
    ·rw [hae]
     rw [if_pos hae] at HD
     have HLl : Hid ((applyL sig S r).length * 8 ≤ 140737488351232) := by
      have h9 := apply_few sig S r
      show _ ≤ _
      omega
     clear hae
     generalize applyL sig S r = Q at HD HO5 HLl
     obtain ⟨⟨x0, x1⟩, y0, y1⟩ := HC.out w5 D5.out
     go_wp2_with fail
     refine (replace_any _ _ _ sig t Q p w5 (HS.out.kp (zK C5.out)) (HTt.out.kp (zK C5.out)) HO5.out.is (HT.out.below C5.out) (by omega) HLl.out hp1 hp2).mono ?_
     rintro e w6 ⟨v6, rfl, ho6, hb6⟩
     have C6 := hid (zS C5.out hb6)
     have HO6 := hid (ho6.mono C5.out.size)
     clear ho6 hb6 x0 x1 y0 y1
     generalize replE sig t p Q = Z at HD ⊢
     generalize replL sig t p Q = ZL at HD HO6
     go_wp2
     go_ret2
     obtain ⟨q1, q2⟩ := do_ret HD.out HO6.out
     exact ⟨_, q1, q2, C6.out⟩
    rw [if_neg hae] at HD
    generalize applyE sig S r = Z at hae HD ⊢
    have hne : (Z != 0) = true := by rw [bne_iff_ne]; exact hae
    clear hae
    go_wp2
    go_ret2
    obtain ⟨q1, q2⟩ := do_ret HD.out (nil_own _ _)
    exact ⟨_, q1, q2, C5.out⟩
   have hd1 : decide ((K : Int) ≥ (rs.length : Int)) = true := by simpa using (show (K : Int) ≥ (rs.length : Int) by omega)
   rw [yO (by omega)] at HD
   simp only at HD
   go_wp2
   go_ret2
   obtain ⟨q1, q2⟩ := do_ret HD.out (nil_own _ _)
   exact ⟨_, q1, q2, C2.out⟩
  rw [if_neg hpl] at HD
  generalize placeE sig t p = Z at hpl HD ⊢
  have hne : (Z != 0) = true := by rw [bne_iff_ne]; exact hpl
  clear hpl
  go_wp2
  go_ret2
  obtain ⟨q1, q2⟩ := do_ret HD.out (nil_own _ _)
  exact ⟨_, q1, q2, C2.out⟩
 rw [if_neg he] at HD
 generalize stepE sig rs t = Z at he HD ⊢
 have hne : (Z != 0) = true := by rw [bne_iff_ne]; exact he
 clear he
 go_wp2
 go_ret2
 obtain ⟨q1, q2⟩ := do_ret HD.out (nil_own _ _)
 exact ⟨_, q1, q2, C1.out⟩
def sumR0 : Rl := ([2, 0, -1], [-1])
def sumR1 : Rl := ([2, 1, -1, -2], [1, 2, -1, -2])
theorem heap_newg8 {w : World} {o : Obj} {g : Nat} (h : g = w.heap.size) : (w.alloc o).heap[g]? = some o := by
 subst h
 exact yU _ _
theorem ru_lit8 {W : World} {g : Nat} {a0 a1 a2 a3 : Option Addr} {n0 n1 n2 n3 c0 c1 c2 c3 : Nat} {p q r s : List Int} (h0 : W.cell? ⟨g, 0, none⟩ = some (.slice a0 n0 c0)) (h1 : W.cell? ⟨g, 1, none⟩ = some (.slice a1 n1 c1)) (h2 : W.cell? ⟨g, 2, none⟩ = some (.slice a2 n2 c2)) (h3 : W.cell? ⟨g, 3, none⟩ = some (.slice a3 n3 c3))
  (i0 : Is W (.slice a0 n0 c0) p) (i1 : Is W (.slice a1 n1 c1) q) (i2 : Is W (.slice a2 n2 c2) r) (i3 : Is W (.slice a3 n3 c3) s) (l0 : p.length ≤ 99) (l1 : q.length ≤ 99) (l2 : r.length ≤ 99) (l3 : s.length ≤ 99) : RU W (.slice (some ⟨g, 0, none⟩) 2 2) [(p, q), (r, s)] := by
 refine ⟨some ⟨g, 0, none⟩, 2, rfl, Nat.le_refl _, by unfold maxLen; omega, fun _ => ⟨g, 0, rfl, yJ _ _ h0, fun k x hk => ?_⟩⟩
 match k, hk with
 | 0, hk =>
  cases hk
  exact ⟨by simp only; omega, by simp only; omega, _, _, h0, h1, i0, i1⟩
 | 1, hk =>
  cases hk
  exact ⟨by simp only; omega, by simp only; omega, _, _, h2, h3, i2, i3⟩
 | k + 2, hk => simp at hk
theorem results_one8 {P : Program} {fn : Func} {w : World} {tmps : Array Value} {t : Tmp} {ty : TypeId} {ad : Addr} {v : Value} (h : fn.results = #[.cell t ty]) (ht : tmps.getD t undef = .pointer (some ad)) (hl : (loadVar ty ad).run P w = .ok v w) : (results fn tmps).run P w = .ok v w := by
 have ht2 : tmps[t]?.getD undef = .pointer (some ad) := by simpa using ht
 simp [results, h, ht2, hl, asAddr]
end Go.Proofs.YtdjmjhlbjcgoiaaGreatDoor
