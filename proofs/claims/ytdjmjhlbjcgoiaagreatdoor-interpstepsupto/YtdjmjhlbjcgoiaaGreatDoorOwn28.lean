/- Texts of the proof, one behind the other. -/
import Derived.Test.YtdjmjhlbjcgoiaaGreatDoorOwn27
import Derived.Test.YtdjmjhlbjcgoiaaGreatDoorOwn4
import Derived.Test.YtdjmjhlbjcgoiaaGreatDoorOwn25
import Derived.Test.YtdjmjhlbjcgoiaaGreatDoorOwn18
import Derived.Test.YtdjmjhlbjcgoiaaGreatDoorOwn20
import Derived.Test.YtdjmjhlbjcgoiaaGreatDoorOwn6
import Derived.Test.YtdjmjhlbjcgoiaaGreatDoorOwn23
import Derived.Test.YtdjmjhlbjcgoiaaGreatDoorOwn5
import Derived.Test.YtdjmjhlbjcgoiaaGreatDoorOwn26
set_option maxRecDepth 1000000
set_option maxHeartbeats 6400000
namespace Go.Proofs.YtdjmjhlbjcgoiaaGreatDoor
open Go.RowKit
def LtS (s s' : List (List Nat)) : Prop := LeS s s' ∧ ∃ (j : Nat) (f g : List Nat), s[j]? = some f ∧ s'[j]? = some g ∧ val g < val f
theorem arI_toNat12 (sig : List Sy) (c : Int) : (arI sig c).toNat = arN sig c := by
 unfold arI arN
 cases sig[c.toNat]? <;> rfl
theorem mon_last {m : Mn} {v : Nat} {n : Int} (h : monB m = true) (hl : m.2.length = v + 1) (hn : m.2[v]? = some n) : 0 < n := by
 unfold monB at h
 simp only [Bool.and_eq_true, Bool.or_eq_true, Bool.not_eq_true', List.all_eq_true, yY, beq_iff_eq] at h
 obtain ⟨⟨_, h1⟩, h2⟩ := h
 have h3 := h1 n (zD hn)
 rcases h2 with h2 | h2
 ·omega
 rw [hl, Nat.add_sub_cancel, hn] at h2
 have : n ≠ 0 := by simpa using h2
 omega
theorem worthN_rise {sig : List Sy} {l : List Ip} (hr : allRis sig l = true) {c : Int} (hm : (c, spol l c) ∈ l) (hL : ∀ x ∈ l, ∀ m ∈ x.2, Lim m.1) {s s' : List (List Nat)} (hz : valE (spol l c) s = 0) (hle : LeS s s') {j : Nat} (hj : j < arN sig c) {f g : List Nat} (hf : s[j]? = some f) (hg : s'[j]? = some g) (hlt : val g < val f) : worthN s' (spol l c) < worthN s (spol l c) := by
 have h1 : risB (arN sig c) (spol l c) = true := by
  have := List.all_eq_true.1 hr _ hm
  rw [arI_toNat12] at this
  exact this
 obtain ⟨m, hm1, hm2⟩ := List.any_eq_true.1 (List.all_eq_true.1 h1 j (List.mem_range.2 hj))
 have hP := Pol.of (hL _ hm) (by omega) ((val_iff (hL _ hm) hle.2.1).1 hz).1
 have hG := hP.good hm1
 have hml : m.2.length = j + 1 := by
  unfold alonB at hm2
  simp only [Bool.and_eq_true, yY] at hm2
  exact hm2.1
 exact worthN_alone hle.1.symm (fun i f g hf hg => hle.2.2.2 i g f hg hf) hm1 (val_pos hG.1 hG.2.1 hG.2.2.1) hm2 (fun n hn => mon_last (hP.mon m hm1) hml hn) hg hf hlt
theorem LtS.cons {s s' : List (List Nat)} {x y : List Nat} (h : LtS s s') (hx : Lim x) (hy : Lim y) (hv : val y ≤ val x) : LtS (x :: s) (y :: s') := by
 obtain ⟨h1, j, f, g, hf, hg, hlt⟩ := h
 exact ⟨h1.cons hx hy hv, j + 1, f, g, by simpa using hf, by simpa using hg, hlt⟩
theorem LtS.head {s s' : List (List Nat)} {x y : List Nat} (h : LeS s s') (hx : Lim x) (hy : Lim y) (hv : val y < val x) : LtS (x :: s) (y :: s') :=
 ⟨h.cons hx hy (Nat.le_of_lt hv), 0, x, y, rfl, rfl, hv⟩
theorem xDL {sig : List Sy} {l : List Ip} (hin : inE sig l = 0) (hr : allRis sig l = true) (hL : ∀ x ∈ l, ∀ m ∈ x.2, Lim m.1) {vr : Int → List Nat} (hvr : ∀ c, Lim (vr c)) {v v' : List Int} {S S' : List (List Nat)} (h : valS sig (spol l) vr v = some S) (h' : valS sig (spol l) vr v' = some S') (hlt : LtS S S') :
  ∀ (p : List Int) (s s' : List (List Nat)), (∀ c ∈ p, c.toNat < sig.length ∨ c < 0) → valS sig (spol l) vr (p ++ v) = some s → valS sig (spol l) vr (p ++ v') = some s' → LtS s s'
 | [], s, s', _, h1, h2 => by
  rw [yH] at h1 h2
  rw [h] at h1
  rw [h'] at h2
  cases h1
  cases h2
  exact hlt
 | c :: p, s, s', hc, h1, h2 => by
  rw [yG] at h1 h2
  cases hs : valS sig (spol l) vr (p ++ v) with
  | none => rw [xBN hs] at h1; cases h1
  | some t =>
   cases hs' : valS sig (spol l) vr (p ++ v') with
   | none => rw [xBN hs'] at h2; cases h2
   | some t' =>
    have ih := xDL hin hr hL hvr h h' hlt p t t' (fun x hx => hc x (zT _ hx)) hs hs'
    by_cases h0 : c < 0
    ·rw [xCA hs h0] at h1
     rw [xCA hs' h0] at h2
     cases h1
     cases h2
     exact ih.cons (hvr c) (hvr c) (Nat.le_refl _)
    by_cases hz1 : valE (spol l c) (t.take (arN sig c)) = 0
    ·by_cases hz2 : valE (spol l c) (t'.take (arN sig c)) = 0
     ·rw [xBV hs h0 hz1] at h1
      rw [xBV hs' h0 hz2] at h2
      cases h1
      cases h2
      obtain ⟨ile, j, f, g, hf, hg, hfg⟩ := ih
      have it := ile.take (arN sig c)
      have R1 := xDS (xFH hL c) it.2.1 hz1
      have R2 := xDS (xFH hL c) it.2.2.1 hz2
      have L1 : Lim (valL (spol l c) (t.take (arN sig c))) := by rw [R1.1]; exact xCT _
      have L2 : Lim (valL (spol l c) (t'.take (arN sig c))) := by rw [R2.1]; exact xCT _
      by_cases hj : j < arN sig c
      ·have hcs : c.toNat < sig.length := by rcases hc c (by simp) with h5 | h5 <;> omega
       have hw := worthN_rise hr (in_spol hin hL (c := c) (by omega) hcs).1 hL hz1 it hj (by rw [List.getElem?_take_of_lt hj]; exact hf) (by rw [List.getElem?_take_of_lt hj]; exact hg) hfg
       exact LtS.head (ile.drop _) L1 L2 (by rw [R1.val, R2.val]; exact hw)
      have hd : LtS (t.drop (arN sig c)) (t'.drop (arN sig c)) := ⟨ile.drop _, j - arN sig c, f, g, by rw [List.getElem?_drop, show arN sig c + (j - arN sig c) = j by omega]; exact hf, by rw [List.getElem?_drop, show arN sig c + (j - arN sig c) = j by omega]; exact hg, hfg⟩
      exact hd.cons L1 L2 (by rw [R1.val, R2.val]; exact xEE _ _ it.1.symm (fun i f g hf hg => it.2.2.2 i g f hg hf) _)
     rw [valS_no hs' h0 hz2] at h2
     cases h2
    rw [valS_no hs h0 hz1] at h1
    cases h1
theorem row_worth {V : List Int} {vs : Int → List Nat} (hvs : ∀ c, Lim (vs c) ∧ rightB (vs c) = true) {c : Int} (hm : -1 - c ∈ V) : RtY (vs c) (worthN (V.map fun v => vs (-1 - v)) (vAt V c)) := by
 have hk := List.idxOf_lt_length_of_mem hm
 have hr : (V.map fun v => vs (-1 - v))[V.idxOf (-1 - c)]? = some (vs c) := by
  rw [zU, zC hk]
  simp only [Option.map_some, List.getElem_idxOf, zX]
  congr 1
  omega
 unfold vAt
 rw [worth_vpol hr]
 exact RtY.of (hvs c).1 (hvs c).2
theorem ofV_stack {sig : List Sy} (ha : ArOk sig) {l : List Ip} {V t : List Int} {p : List Mn} (ht : rowE sig t = 0) (hp : ofV sig l V t = some p) : ofS sig (spol l) (vAt V) t = some [p] := by
 rcases ofS_one (sp := spol l) (vp := vAt V) ha ht with h | ⟨q, h⟩
 ·rw [ofV_none h] at hp; cases hp
 by_cases h5 : 512 < V.length
 ·unfold ofV at hp
  rw [if_pos h5] at hp
  cases hp
 rw [ofV_some (by omega) h] at hp
 cases hp
 exact h
theorem side_worth {sig : List Sy} (ha : ArOk sig) {l : List Ip} (hL : ∀ x ∈ l, ∀ m ∈ x.2, Lim m.1) {vs : Int → List Nat} (hvs : ∀ c, Lim (vs c) ∧ rightB (vs c) = true) {V t : List Int} (ht : rowE sig t = 0) (hV : ∀ c ∈ t, c < 0 → -1 - c ∈ V) {p : List Mn} (hp : ofV sig l V t = some p) {x : List Nat} (hx : valS sig (spol l) vs t = some [x]) :
  RtY x (worthN (V.map fun v => vs (-1 - v)) p) :=
 (stack_worth hL t (fun c hc h0 => row_worth hvs (hV c hc h0)) _ _ hx (ofV_stack ha ht hp)).2 0 x p rfl rfl
theorem rule_falls {sig : List Sy} (ha : ArOk sig) {l : List Ip} (hL : ∀ x ∈ l, ∀ m ∈ x.2, Lim m.1) {vs : Int → List Nat} (hvs : ∀ c, Lim (vs c) ∧ rightB (vs c) = true) {a b : List Int} (hat : rowE sig a = 0) (hbt : rowE sig b = 0) {P Q : List Mn} (hP : ofV sig l (varsL (a ++ b)) a = some P) (hQ : ofV sig l (varsL (a ++ b)) b = some Q) (lP : ∀ m ∈ P, Lim m.1) (lQ : ∀ m ∈ Q, Lim m.1)
  {x y : List Nat} (hx : valS sig (spol l) vs a = some [x]) (hy : valS sig (spol l) vs b = some [y]) : (1 ≤ fallP P Q → val y ≤ val x) ∧ (fallP P Q = 2 → val y < val x) := by
 have R1 := side_worth ha hL hvs hat (fun c hc h0 => xCG (List.mem_append_left _ hc) h0) hP hx
 have R2 := side_worth ha hL hvs hbt (fun c hc h0 => xCG (List.mem_append_right _ hc) h0) hQ hy
 rw [R1.val, R2.val]
 unfold fallP
 by_cases hg : greaterB P Q = true
 ·have hl : atLeastB P Q = true := by
   unfold greaterB at hg
   simp only [Bool.and_eq_true] at hg
   exact hg.1
  have h := least_plain (ats := (varsL (a ++ b)).map fun v => vs (-1 - v)) lP lQ hl
  exact ⟨fun _ => h.1, fun _ => h.2 hg⟩
 rw [if_neg hg]
 by_cases hl : atLeastB P Q = true
 ·rw [if_pos hl]
  exact ⟨fun _ => (least_plain lP lQ hl).1, fun h => by cases h⟩
 rw [if_neg hl]
 exact ⟨fun h => by omega, fun h => by cases h⟩
theorem xCZ {sig : List Sy} {l : List Ip} (hL : ∀ x ∈ l, ∀ m ∈ x.2, Lim m.1) {vr : Int → List Nat} (hvr : ∀ c, Lim (vr c) ∧ rightB (vr c) = true) : ∀ (u : List Int) (s : List (List Nat)), valS sig (spol l) vr u = some s → ∀ x ∈ s, Lim x ∧ rightB x = true
 | [], s, h, x, hx => by
  cases h
  cases hx
 | c :: u, s, h, x, hx => by
  cases hu : valS sig (spol l) vr u with
  | none => rw [xBN hu] at h; cases h
  | some t =>
   have ih := xCZ hL hvr u t hu
   by_cases hc : c < 0
   ·rw [xCA hu hc] at h
    cases h
    rcases yB.1 hx with rfl | hx
    ·exact hvr c
    exact ih x hx
   by_cases hz : valE (spol l c) (t.take (arN sig c)) = 0
   ·rw [xBV hu hc hz] at h
    cases h
    have R := xDS (xFH hL c) (fun f hf => (ih f (List.mem_of_mem_take hf)).1) hz
    rcases yB.1 hx with rfl | hx
    ·exact ⟨by rw [R.1]; exact xCT _, R.right⟩
    exact ih x (List.mem_of_mem_drop hx)
   rw [valS_no hu hc hz] at h
   cases h
def vsA (sig : List Sy) (l : List Ip) (vr : Int → List Nat) (σ : Int → List Int) (c : Int) : List Nat := match valS sig (spol l) vr (σ c) with | some [x] => x | _ => []
theorem vsA_right {sig : List Sy} {l : List Ip} (hL : ∀ x ∈ l, ∀ m ∈ x.2, Lim m.1) {vr : Int → List Nat} (hvr : ∀ c, Lim (vr c) ∧ rightB (vr c) = true) (σ : Int → List Int) (c : Int) : Lim (vsA sig l vr σ c) ∧ rightB (vsA sig l vr σ c) = true := by
 unfold vsA
 split
 ·rename_i x h
  exact xCZ hL hvr _ _ h x (by simp)
 exact ⟨Lim.nil, by decide⟩
theorem vsA_some {sig : List Sy} {l : List Ip} {vr : Int → List Nat} {σ : Int → List Int} {c : Int} {x : List Nat} (h : valS sig (spol l) vr (σ c) = some [x]) : valS sig (spol l) vr (σ c) = some [vsA sig l vr σ c] := by
 unfold vsA
 rw [h]
theorem part_some {sig : List Sy} (ha : ArOk sig) {sp : Int → List Mn} {vr : Int → List Nat} {p u q : List Int} {s : List (List Nat)} (hu : rowE sig u = 0) (h : valS sig sp vr (p ++ (u ++ q)) = some s) : ∃ x S, valS sig sp vr u = some [x] ∧ valS sig sp vr q = some S ∧ valS sig sp vr (u ++ q) = some (x :: S) := by
 cases hq : valS sig sp vr q with
 | none => rw [xCH (xCH hq u)] at h; cases h
 | some S =>
  have h1 := valS_row ha hu hq
  rcases valS_one ha (sp := sp) (vp := vr) hu with h2 | ⟨x, h2⟩
  ·rw [h2] at h1
   rw [xCH h1] at h
   cases h
  rw [h2] at h1
  exact ⟨x, S, h2, rfl, h1⟩
theorem step_worth {sig : List Sy} {l : List Ip} (hin : inE sig l = 0) (hL : ∀ x ∈ l, ∀ m ∈ x.2, Lim m.1) {vr : Int → List Nat} (hvr : ∀ c, Lim (vr c) ∧ rightB (vr c) = true) {a b : List Int} (hat : rowE sig a = 0) (hbt : rowE sig b = 0) (hab : ∀ c ∈ b, c < 0 → c ∈ a) {P Q : List Mn} (hP : ofV sig l (varsL (a ++ b)) a = some P) (hQ : ofV sig l (varsL (a ++ b)) b = some Q) (lP : ∀ m ∈ P, Lim m.1) (lQ : ∀ m ∈ Q, Lim m.1)
  {σ : Int → List Int} (hσ : ∀ c ∈ a, c < 0 → rowE sig (σ c) = 0) (hra : rowE sig (apR σ a) = 0) (hrb : rowE sig (apR σ b) = 0) {p q : List Int} {x y : List Nat} (hx : valS sig (spol l) vr (p ++ (apR σ a ++ q)) = some [x]) (hy : valS sig (spol l) vr (p ++ (apR σ b ++ q)) = some [y]) (hf : 1 ≤ fallP P Q) :
  val y ≤ val x ∧ (fallP P Q = 2 → allRis sig l = true → (∀ c ∈ p, c.toNat < sig.length ∨ c < 0) → val y < val x) := by
 have ha := sigE_ok (inE_ok hin).1
 obtain ⟨x0, S, h1, h2, h3⟩ := part_some ha hra hx
 obtain ⟨y0, S', k1, k2, k3⟩ := part_some ha hrb hy
 rw [h2] at k2
 cases k2
 have hv := valS_ap_some ha a [x0] hσ h1
 have e1 : valS sig (spol l) (vsA sig l vr σ) a = some [x0] := by
  rw [← valS_ap ha a (fun c hc h0 => ⟨hσ c hc h0, by obtain ⟨z, hz⟩ := hv c hc h0; exact vsA_some hz⟩)]
  exact h1
 have e2 : valS sig (spol l) (vsA sig l vr σ) b = some [y0] := by
  rw [← valS_ap ha b (fun c hc h0 => ⟨hσ c (hab c hc h0) h0, by obtain ⟨z, hz⟩ := hv c (hab c hc h0) h0; exact vsA_some hz⟩)]
  exact k1
 obtain ⟨f1, f2⟩ := rule_falls ha hL (vsA_right hL hvr σ) hat hbt hP hQ lP lQ e1 e2
 have rS := xCZ hL hvr _ _ h2
 have rx := (xCZ hL hvr _ _ h1 x0 (by simp)).1
 have ry := (xCZ hL hvr _ _ k1 y0 (by simp)).1
 have hS : LeS S S := LeS.refl fun z hz => (rS z hz).1
 refine ⟨?_, fun g1 g2 g3 => ?_⟩
 ·have h := valS_around hL (fun c => (hvr c).1) h3 k3 (hS.cons rx ry (f1 hf)) p _ _ hx hy
  exact h.2.2.2 0 x y rfl rfl
 obtain ⟨_, j, f, g, u1, u2, u3⟩ := xDL hin g2 hL (fun c => (hvr c).1) h3 k3 (LtS.head hS rx ry (f2 g1)) p _ _ g3 hx hy
 cases j with
 | zero =>
  simp at u1 u2
  subst u1 u2
  exact u3
 | succ j => simp at u1
end Go.Proofs.YtdjmjhlbjcgoiaaGreatDoor
namespace Go.Proofs.YtdjmjhlbjcgoiaaGreatDoor
open Go.RowKit Go.Maps Go.BigFrame
theorem nodes_end {sig : List Sy} {t : List Int} (ht : termE sig t = 0) {x y : Nat} (hv : VOk sig t (x, y)) : nodes sig t x = y - x := by
 have hx : x < t.length := by have := hv.1; have := hv.2.1; simp only at *; omega
 obtain ⟨k, m, hk, _, _, hn, hm, _⟩ := endP_ok (place_end ht hx)
 have h1 := part_sub ht hv
 rw [show ((x, y) : Nat × Nat).1 = x from rfl, sub_eq ht hx] at h1
 have h2 := congrArg List.length h1
 unfold partV at h2
 have h3 := hv.1
 have h4 := hv.2.1
 simp only [zH, zI] at h2 h3 h4
 omega
theorem laid_row8 {sig : List Sy} {l r u : List Int} {f : Int → Option (List Int)} (ha : ArOk sig) (hr : termE sig r = 0) (hf : Rt sig f) (hs : Sm f l u) : rowE sig (laidL (bnd (bindsL f l)) r) = 0 := by
 refine row_laid ha (fun n u hu => ?_) (xAE hr).2
 unfold bnd at hu
 have hm := yZ.1 (xDX hu)
 unfold bindsL at hm
 obtain ⟨k, hk, he⟩ := yL.1 hm
 simp only [Prod.mk.injEq] at he
 obtain ⟨rfl, rfl⟩ := he
 obtain ⟨c, hc, hc0, rfl⟩ := xCR.1 ((xDC _ _).1 hk)
 cases hfk : f (-1 - c) with
 | none => exact absurd hfk (hs.1 c hc hc0)
 | some v => exact hf _ v hfk
theorem doK_doc {sig : List Sy} {t l r : List Int} {x y : Nat} {f : Int → Option (List Int)} (ht : termE sig t = 0) (hv : VOk sig t (x, y)) (hl : termE sig l = 0) (hr : termE sig r = 0) (hf : Rt sig f) (hs : Sm f l (subL sig t (x : Int))) :
  doK sig t (x : Int) (l, r) = if 512 < x + (laidL (bnd (bindsL f l)) r).length + (t.length - y) then ([], 2) else (t.take x ++ (laidL (bnd (bindsL f l)) r ++ t.drop y), 0) := by
 have hx : x < t.length := by have := hv.1; have := hv.2.1; simp only at *; omega
 have hxy := hv.1
 have hyt := hv.2.1
 simp only at hxy hyt
 obtain ⟨hb, _⟩ := back_found hl hf hs
 have hrow := laid_row8 (sig_arOk (xAE ht).1) hr hf hs
 obtain ⟨Q, hQ⟩ : ∃ Q, Q = laidL (bnd (bindsL f l)) r := ⟨_, rfl⟩
 have hE : applyE sig (bindsL f l) r = if 512 < Q.length then 2 else 0 := by
  unfold applyE
  rw [if_pos hb, if_pos hr, (lay_eq _ r).1, ← hQ]
 have hL : applyL sig (bindsL f l) r = if 512 < Q.length then [] else Q := by
  unfold applyL
  rw [if_pos hb, if_pos hr, (lay_eq _ r).2, ← hQ]
 have hn := nodes_end ht hv
 unfold doK
 simp only
 rw [hitB_true ⟨f, hf, hs⟩, if_pos rfl, hitBd_eq hf hs, hE, hL, ← hQ]
 rw [← hQ] at hrow
 by_cases h5 : 512 < Q.length
 ·rw [if_pos h5, if_pos h5, if_neg (by decide), if_pos (by omega)]
 rw [if_neg h5, if_neg h5, if_pos rfl]
 have hR : replE sig t (x : Int) Q = if 512 < x + Q.length + (t.length - y) then 2 else 0 := by
  unfold replE
  rw [if_pos ht, if_pos hrow, if_pos (place_in ht hx), Int.toNat_natCast, hn, show x + (y - x) = y by omega]
 by_cases h6 : 512 < x + Q.length + (t.length - y)
 ·rw [if_pos h6] at hR ⊢
  rw [repl_none (by rw [hR]; decide), hR]
 rw [if_neg h6] at hR ⊢
 unfold replL
 rw [if_pos hR, hR, Int.toNat_natCast, hn, show x + (y - x) = y by omega]
theorem first_pre {sig : List Sy} (ha : ArOk sig) (s : List Int) : ∀ (p : List Int) (m : Int) (j : Nat), 1 ≤ m → s ≠ [] → firstT sig m j (p ++ s) = ((j : Int) + (p ++ s).length, 0) → ∃ m' : Int, 1 ≤ m' ∧ ∀ r : List Int, firstT sig m j (p ++ r) = firstT sig m' (j + p.length) r
 | [], m, j, hm, _, _ => ⟨m, hm, fun r => rfl⟩
 | c :: p, m, j, hm, hs, h => by
  rw [yG, xAJ] at h
  cases hc : codeD sig c with
  | none => rw [hc] at h; simp at h
  | some e =>
   have he := xDP ha hc
   rw [hc] at h
   simp only at h
   by_cases h0 : m + e = 0
   ·rw [if_pos h0] at h
    have h1 := congrArg Prod.fst h
    have h2 : 0 < s.length := by
     cases s with
     | nil => exact absurd rfl hs
     | cons a s => simp
    simp only [zG, zF] at h1
    omega
   rw [if_neg h0] at h
   obtain ⟨m', h1, h2⟩ := first_pre ha s p (m + e) (j + 1) (by omega) hs (by rw [h]; simp only [zG, Prod.mk.injEq, and_true]; omega)
   refine ⟨m', h1, fun r => ?_⟩
   rw [yG, xAJ, hc]
   simp only
   rw [if_neg h0, h2 r, zG]
   congr 1
   omega
theorem first_move {sig : List Sy} : ∀ (r : List Int) (m : Int) (i j : Nat) (n : Nat), firstT sig m i r = ((i : Int) + n, 0) → firstT sig m j r = ((j : Int) + n, 0)
 | [], m, i, j, n, h => by simp [firstT] at h
 | c :: r, m, i, j, n, h => by
  rw [xAJ] at h ⊢
  cases hc : codeD sig c with
  | none => rw [hc] at h; simp at h
  | some e =>
   rw [hc] at h
   simp only at h ⊢
   by_cases h0 : m + e = 0
   ·rw [if_pos h0] at h ⊢
    have := congrArg Prod.fst h
    simp only at this
    simp only [Prod.mk.injEq, and_true]
    omega
   rw [if_neg h0] at h ⊢
   cases n with
   | zero =>
    exfalso
    obtain ⟨k, h1, h2, _⟩ := xEA r (m + e) (i + 1) _ h
    omega
   | succ n =>
    have := first_move r (m + e) (i + 1) (j + 1) n (by rw [h]; simp only [Prod.mk.injEq, and_true]; omega)
    rw [this]
    simp only [Prod.mk.injEq, and_true]
    omega
theorem right_len {sig : List Sy} {u : List Int} (h : rowE sig u = 0) : 0 < u.length := by
 cases u with
 | nil => simp [rowE, firstT] at h
 | cons c u => simp
theorem right_mid {sig : List Sy} (ha : ArOk sig) {p v u q : List Int} (h : rowE sig (p ++ (v ++ q)) = 0) (hv : rowE sig v = 0) (hu : rowE sig u = 0) : rowE sig (p ++ (u ++ q)) = 0 := by
 have hvl := right_len hv
 have hvn : v ++ q ≠ [] := by
  intro e
  have := congrArg List.length e
  simp at this
  simp [this.1] at hvl
 have h1 := xAI.1 h
 obtain ⟨m', hm, hp⟩ := first_pre ha (v ++ q) p 1 0 (by omega) hvn (by rw [h1]; simp)
 rw [hp, xFB ha v 1 0 (by omega) (by rw [xAI.1 hv]; simp) m' _ q hm] at h1
 rw [xAI, hp, xFB ha u 1 0 (by omega) (by rw [xAI.1 hu]; simp) m' _ q hm]
 by_cases h0 : m' = 1
 ·rw [if_pos h0] at h1 ⊢
  have h2 := congrArg Prod.fst h1
  simp only [zF] at h2 ⊢
  simp only [Prod.mk.injEq, and_true]
  omega
 rw [if_neg h0] at h1 ⊢
 rw [first_move q (m' - 1) (0 + p.length + v.length) (0 + p.length + u.length) q.length (by rw [h1]; simp only [zF, Prod.mk.injEq, and_true]; omega)]
 simp only [zF, Prod.mk.injEq, and_true]
 omega
theorem term_of {sig : List Sy} {t u : List Int} (h : termE sig t = 0) (hu : rowE sig u = 0) : termE sig u = 0 := by
 unfold termE
 rw [if_pos (xAE h).1]
 exact hu
theorem place_end8 {sig : List Sy} {t : List Int} (ht : termE sig t = 0) {x : Nat} (hx : x < t.length) : ∃ y, VOk sig t (x, y) := by
 obtain ⟨vs, hpv⟩ := pv_any (sig_arOk (xAE ht).1) t.length t 0 (Nat.le_refl _) (xAE ht).2
 have hm : x ∈ vs.map Prod.fst := (pv_perm hpv).symm.subset (by rw [List.mem_range'_1]; omega)
 obtain ⟨v, hv, rfl⟩ := yL.1 hm
 exact ⟨v.2, pv_ok hpv t [] [] (by simp) rfl v hv⟩
theorem redL_at {sig : List Sy} {part : List Int} {x : Nat} : ∀ (rs : List Rl) (k : Nat) {y : Rx}, y ∈ redL sig part x k rs → ∃ (j : Nat) (r : Rl), rs[j]? = some r ∧ y = ((x : Int), ((k + j : Nat) : Int)) ∧ hitB sig r.1 part = true
 | [], _, y, h => by simp [redL] at h
 | r :: rs, k, y, h => by
  unfold redL at h
  rcases yE.1 h with h | h
  ·split at h
   ·rename_i h9
    rw [yR] at h
    exact ⟨0, r, rfl, by rw [h]; rfl, h9⟩
   cases h
  obtain ⟨j, r', h1, h2, h3⟩ := redL_at rs (k + 1) h
  exact ⟨j + 1, r', by simpa using h1, by rw [h2]; simp only [Prod.mk.injEq, true_and]; omega, h3⟩
theorem all_mem {sig : List Sy} {rs : List Rl} {t : List Int} {y : Rx} (h : y ∈ allL sig rs t) : ∃ (x j : Nat) (r : Rl), x < t.length ∧ rs[j]? = some r ∧ y = ((x : Int), (j : Int)) ∧ hitB sig r.1 (subL sig t (x : Int)) = true := by
 unfold allL at h
 obtain ⟨x, hx, hy⟩ := List.mem_flatMap.1 h
 obtain ⟨j, r, h1, h2, h3⟩ := redL_at rs 0 hy
 exact ⟨x, j, r, List.mem_range.1 hx, h1, by rw [h2, Nat.zero_add], h3⟩
theorem hit_of {sig : List Sy} {l t : List Int} (h : hitB sig l t = true) : Hit sig l t := @of_decide_eq_true _ (Classical.propDecidable _) h
theorem rule_of {sig : List Sy} {rs : List Rl} {t : List Int} {j : Nat} {r : Rl} (he : stepE sig rs t = 0) (hr : rs[j]? = some r) : termE sig r.1 = 0 ∧ termE sig r.2 = 0 ∧ r.1.length ≤ 512 ∧ r.2.length ≤ 512 ∧ (0 : Int) ≤ (r.1[0]?).getD 0 ∧ freeB r.1 r.2 = false :=
 rule_parts ((sys_right (xDV he).1).2 r (zD hr))
theorem do_hit {sig : List Sy} {rs : List Rl} {t : List Int} {x y j : Nat} {r : Rl} {f : Int → Option (List Int)} (he : stepE sig rs t = 0) (hv : VOk sig t (x, y)) (hr : rs[j]? = some r) (hf : Rt sig f) (hs : Sm f r.1 (subL sig t (x : Int))) :
  doR sig rs t (x : Int) (j : Int) = if 512 < x + (laidL (bnd (bindsL f r.1)) r.2).length + (t.length - y) then ([], 2) else (t.take x ++ (laidL (bnd (bindsL f r.1)) r.2 ++ t.drop y), 0) := by
 have ht := (xDV he).2
 have hx : x < t.length := by
  have h1 := hv.1
  have h2 := hv.2.1
  simp only at h1 h2
  omega
 obtain ⟨hl, hr2, _⟩ := rule_of he hr
 unfold doR
 rw [if_pos he, if_pos (place_in ht hx), if_neg (by omega), Int.toNat_natCast, hr]
 exact doK_doc ht hv hl hr2 hf hs
theorem cut_term {t : List Int} {x y : Nat} (h1 : x < y) : t = t.take x ++ ((t.drop x).take (y - x) ++ t.drop y) := by
 have e1 : (t.drop x).take (y - x) ++ t.drop y = t.drop x := by
  have := zQ (y - x) (t.drop x)
  rw [yS, show x + (y - x) = y by omega] at this
  exact this
 rw [e1, zQ]
theorem cut_right {sig : List Sy} {t u : List Int} {x y : Nat} (ht : termE sig t = 0) (hv : VOk sig t (x, y)) (hu : rowE sig u = 0) : rowE sig (t.take x ++ (u ++ t.drop y)) = 0 := by
 have h1 := hv.1
 simp only at h1
 have h9 := (xAE ht).2
 rw [cut_term (t := t) h1] at h9
 exact right_mid (sig_arOk (xAE ht).1) h9 hv.2.2 hu
theorem bnd_binds {f : Int → Option (List Int)} {l : List Int} {c : Int} (hc : c ∈ l) (h0 : c < 0) : bnd (bindsL f l) (-1 - c) = some ((f (-1 - c)).getD []) := by
 unfold bnd
 rw [← look_rise (binds_rise f l)]
 unfold bindsL
 exact binds_look (by rw [xDC, xCR]; exact ⟨c, hc, h0, rfl⟩)
theorem binds_laid {f : Int → Option (List Int)} {l r : List Int} (hl : ∀ c ∈ l, c < 0 → f (-1 - c) ≠ none) (hr : ∀ c ∈ r, c < 0 → c ∈ l) : laidL (bnd (bindsL f l)) r = laidL f r := by
 refine laid_congr fun c hc => ?_
 unfold piece
 by_cases h0 : c < 0
 ·rw [if_pos h0, if_pos h0, bnd_binds (hr c hc h0) h0]
  obtain ⟨u, hu⟩ := Option.ne_none_iff_exists'.1 (hl c (hr c hc h0) h0)
  rw [hu]
  rfl
 rw [if_neg h0, if_neg h0]
theorem free_vars {l r : List Int} (h : freeB l r = false) : ∀ c ∈ r, c < 0 → c ∈ l := fun c hc h0 => by
 unfold freeB at h
 rw [List.any_eq_false] at h
 have h9 := h (-1 - c) (xCR.2 ⟨c, hc, h0, rfl⟩)
 simp only [Bool.not_eq_true', decide_eq_false_iff_not, Decidable.not_not] at h9
 obtain ⟨d, hd, hd0, he⟩ := xCR.1 h9
 rw [show c = d by omega]
 exact hd
theorem laid_ap {f : Int → Option (List Int)} : ∀ {u : List Int}, (∀ c ∈ u, c < 0 → f (-1 - c) ≠ none) → laidL f u = apR (fun c => (f (-1 - c)).getD []) u
 | [], _ => rfl
 | c :: u, h => by
  have ih := laid_ap (u := u) fun x hx => h x (zT _ hx)
  unfold laidL at ih ⊢
  rw [List.flatMap_cons, ih, apR]
  congr 1
  unfold piece
  by_cases hc : c < 0
  ·rw [if_pos hc, if_pos hc]
   obtain ⟨v, hv⟩ := Option.ne_none_iff_exists'.1 (h c (by simp) hc)
   rw [hv]
   rfl
  rw [if_neg hc, if_neg hc]
theorem ofV_lim {sig : List Sy} {l : List Ip} (hin : inE sig l = 0) (hL : ∀ x ∈ l, ∀ m ∈ x.2, Lim m.1) {V t : List Int} {p : List Mn} (ht : rowE sig t = 0) (hV : ∀ c ∈ t, c < 0 → -1 - c ∈ V) (h : ofV sig l V t = some p) : ∀ m ∈ p, Lim m.1 := by
 have ha := sigE_ok (inE_ok hin).1
 have h9 := ofV_stack ha ht h
 have h5 : ¬ 512 < V.length := fun h5 => by
  unfold ofV at h
  rw [if_pos h5] at h
  cases h
 exact (ofS_ch ha (fun c h0 h1 => (in_spol hin hL h0 h1).2) t [] (xAI.1 ht) (fun c hc h0 => by
  unfold vAt
  have := List.idxOf_lt_length_iff.2 (hV c hc h0)
  exact vpol_ch (by omega)) _ h9 p (by simp)).1.lim
theorem atV_right {ats : List (List Nat)} (h : ∀ x ∈ ats, Lim x ∧ rightB x = true) (c : Int) : Lim (atV ats c) ∧ rightB (atV ats c) = true := by
 unfold atV
 split
 ·exact ⟨Lim.nil, by decide⟩
 rename_i h0
 have hlt : (-1 - c).toNat % ats.length < ats.length := Nat.mod_lt _ (by omega)
 rw [zC hlt]
 exact h _ (List.getElem_mem hlt)
theorem fall_some {sig : List Sy} {l : List Ip} {a b : List Int} (h : fallE sig l a b = 0) : ∃ P Q, ofV sig l (varsL (a ++ b)) a = some P ∧ ofV sig l (varsL (a ++ b)) b = some Q ∧ fallN sig l a b = fallP P Q := by
 have h9 := h
 unfold fallE at h
 split at h
 ·split at h
  ·split at h
   ·unfold ovE2 at h
    cases h1 : ofV sig l (varsL (a ++ b)) a with
    | none => rw [h1] at h; simp [ovE] at h
    | some P =>
     cases h2 : ofV sig l (varsL (a ++ b)) b with
     | none => rw [h1, h2] at h; simp [ovE] at h
     | some Q => exact ⟨P, Q, rfl, rfl, by unfold fallN; rw [if_pos h9, h1, h2]; rfl⟩
   rename_i h1; exact absurd h h1
  rename_i h1; exact absurd h h1
 rename_i h1; exact absurd h h1
theorem fallP_two (P Q : List Mn) : fallP P Q ≤ 2 := by
 unfold fallP
 split
 ·omega
 split <;> omega
theorem code_in12 {sig : List Sy} {t : List Int} (h : rowE sig t = 0) {c : Int} (hc : c ∈ t) : c.toNat < sig.length ∨ c < 0 := by
 have h1 := xAI.1 h
 have h2 := xFA t 1 0 (by rw [h1]; simp) c hc
 by_cases h3 : c < 0
 ·exact .inr h3
 have : ¬ (sig.length : Int) ≤ c := fun h9 => h2 (xEC (.inl h9))
 exact .inl (by omega)
theorem do_worth {sig : List Sy} {l : List Ip} {rs : List Rl} {t : List Int} {ats : List (List Nat)} (hin : inE sig l = 0) (hL : ∀ x ∈ l, ∀ m ∈ x.2, Lim m.1) (hat : ∀ x ∈ ats, Lim x ∧ rightB x = true) (he : stepE sig rs t = 0) {z : Rx} (hz : z ∈ allL sig rs t) (hd : (doR sig rs t z.1 z.2).2 = 0) {n : Int} (hn : 1 ≤ n) (hf : ∀ r ∈ rs, fallE sig l r.1 r.2 = 0 ∧ n ≤ fallN sig l r.1 r.2) :
  termE sig (doR sig rs t z.1 z.2).1 = 0 ∧ (doR sig rs t z.1 z.2).1.length ≤ 512 ∧ ∀ x y, valO sig l ats t = some x → valO sig l ats (doR sig rs t z.1 z.2).1 = some y → val y ≤ val x ∧ (n = 2 → allRis sig l = true → val y < val x) := by
 obtain ⟨x, j, r, hx, hr, rfl, hh⟩ := all_mem hz
 obtain ⟨f, hfr, hfs⟩ := hit_of hh
 have ht := (xDV he).2
 have ha := sig_arOk (xAE ht).1
 obtain ⟨y, hv⟩ := place_end8 ht hx
 have hdo := do_hit he hv hr hfr hfs
 obtain ⟨hl1, hr2, _, _, _, hfree⟩ := rule_of he hr
 have hrb := laid_row8 ha hr2 hfr hfs
 rw [binds_laid hfs.1 (free_vars hfree)] at hdo hrb
 simp only at hd ⊢
 by_cases h5 : 512 < x + (laidL f r.2).length + (t.length - y)
 ·rw [if_pos h5] at hdo
  rw [hdo] at hd
  exact absurd hd (by decide)
 rw [if_neg h5] at hdo
 rw [hdo]
 simp only
 have hσ : ∀ c ∈ r.1, c < 0 → rowE sig ((f (-1 - c)).getD []) = 0 := fun c hc h0 => by
  obtain ⟨v, hv⟩ := Option.ne_none_iff_exists'.1 (hfs.1 c hc h0)
  rw [hv]
  exact hfr _ v hv
 have hpart := part_sub ht hv
 have e1 : laidL f r.1 = (t.drop x).take (y - x) := hfs.2.trans hpart.symm
 have hra : rowE sig (laidL f r.1) = 0 := by rw [e1]; exact hv.2.2
 have hrow := cut_right ht hv hrb
 have hcut := cut_term (t := t) (x := x) (y := y) hv.1
 refine ⟨term_of ht hrow, by rw [zF, zF, zH, zI]; omega, fun a b h1 h2 => ?_⟩
 have k1 := valO_of ha (xAE ht).2 h1
 have k2 := valO_of ha hrow h2
 rw [hcut, ← e1] at k1
 have hmem := zD hr
 have hfr2 := free_vars hfree
 have q1 := laid_ap hfs.1
 have q2 := laid_ap (f := f) (u := r.2) fun c hc h0 => hfs.1 c (hfr2 c hc h0) h0
 rw [q1] at k1 hra
 rw [q2] at k2 hrb
 obtain ⟨P, Q, hP, hQ, hN⟩ := fall_some (hf r hmem).1
 have hNn := (hf r hmem).2
 rw [hN] at hNn
 have h2P := fallP_two P Q
 have h9 := step_worth hin hL (atV_right hat) (xAE hl1).2 (xAE hr2).2 hfr2 hP hQ (ofV_lim hin hL (xAE hl1).2 (fun c hc h0 => xCG (List.mem_append_left _ hc) h0) hP) (ofV_lim hin hL (xAE hr2).2 (fun c hc h0 => xCG (List.mem_append_right _ hc) h0) hQ) hσ hra hrb k1 k2 (by omega)
 exact ⟨h9.1, fun hn2 hri => h9.2 (by omega) hri fun c hc => code_in12 (xAE ht).2 (List.mem_of_mem_take hc)⟩
def EX (w : World) (g o : Nat) (x : Rx) : Prop := w.cell? ⟨g, o, none⟩ = some (.int .i64 x.1) ∧ w.cell? ⟨g, o + 1, none⟩ = some (.int .i64 x.2)
def Xs (w : World) (v : Value) (d : List Rx) : Prop := Row EX 2 w v d
theorem Xs.kp {w w' : World} {v : Value} {d : List Rx} (h : Xs w v d) (hk : Kp w w') : Xs w' v d := Row.imp h hk.size (fun _ _ _ hx => ⟨hk.cell _ _ hx.1, hk.cell _ _ hx.2⟩)
theorem OX.xs {w : World} {base : Nat} {v : Value} {d : List Rx} (h : OX w base v d) : Xs w v d := by
 rcases h.2.2 with ⟨rfl, hn⟩ | ⟨g, cap, cur, rfl, hb, hg, hc, hm, hs, ht⟩
 ·obtain rfl := zE hn
  exact Row.nil (by simp [maxLen])
 refine ⟨_, cap, rfl, hc, hm, fun _ => ⟨g, 0, rfl, (zL.1 hg).1, fun k x hk => ?_⟩⟩
 obtain ⟨h1, h2, _⟩ := h.at hk
 exact ⟨by rw [Nat.zero_add]; exact h1, by rw [Nat.zero_add]; exact h2⟩
theorem Xs.at {w : World} {ao : Option Addr} {n c k : Nat} {d : List Rx} (h : Xs w (.slice ao n c) d) (hk : k < d.length) : ∃ (g off : Nat) (x1 x2 : Int), ao = some ⟨g, off, none⟩ ∧ d[k]? = some (x1, x2) ∧ w.cell? ⟨g, off + k * 2, none⟩ = some (.int .i64 x1) ∧ w.cell? ⟨g, off + k * 2 + 1, none⟩ = some (.int .i64 x2) := by
 obtain ⟨ao', cap, e, _, _, hh⟩ := h
 cases e
 obtain ⟨g, off, rfl, _, hE⟩ := hh (by omega)
 have hx : d[k]? = some d[k] := zC hk
 obtain ⟨h1, h2⟩ := hE k _ hx
 exact ⟨g, off, d[k].1, d[k].2, rfl, hx, h1, h2⟩
theorem allR_mem {sig : List Sy} {rs : List Rl} {t : List Int} {y : Rx} (h : y ∈ allR sig rs t) : stepE sig rs t = 0 ∧ y ∈ allL sig rs t := by
 unfold allR at h
 split at h
 ·rename_i he
  exact ⟨he, h⟩
 cases h
theorem fallN_range (sig : List Sy) (l : List Ip) (a b : List Int) : 0 ≤ fallN sig l a b ∧ fallN sig l a b ≤ 2 := by
 unfold fallN
 split
 ·unfold fallP
  split
  ·omega
  split <;> omega
 omega
theorem valO_right {sig : List Sy} {l : List Ip} {ats : List (List Nat)} {u : List Int} {x : List Nat} (ha : ArOk sig) (hL : ∀ x ∈ l, ∀ m ∈ x.2, Lim m.1) (hat : ∀ x ∈ ats, Lim x ∧ rightB x = true) (hu : rowE sig u = 0) (h : valO sig l ats u = some x) : rightB x = true :=
 (xCZ hL (atV_right hat) u [x] (valO_of ha hu h) x (by simp)).2
theorem cmp_told {x y : List Nat} (hx : rightB x = true) (hy : rightB y = true) : cmpE x y = 0 ∧ cmpV x y = cmpI (val x) (val y) := by
 unfold cmpE cmpV
 rw [hx, hy]
 exact ⟨rfl, rfl⟩
theorem cmp_ge {x y : List Nat} (hx : rightB x = true) (hy : rightB y = true) (h : val y ≤ val x) : cmpE x y = 0 ∧ (cmpV x y = 0 ∨ cmpV x y = 1) ∧ (val y < val x → cmpV x y = 1) := by
 obtain ⟨h1, h2⟩ := cmp_told hx hy
 rw [h2]
 unfold cmpI
 rw [if_neg (by omega)]
 refine ⟨h1, ?_, fun h3 => by rw [if_pos h3]⟩
 split
 ·exact .inr rfl
 exact .inl rfl
theorem interpSteps_any (hsh : Shown12) (sv rv lv tv av : Value) (sig : List Sy) (rs : List Rl) (l : List Ip) (t : List Int) (ats : List (List Nat)) (w : World) (hs : Sg w sv sig) (hr : RU w rv rs) (hl : Ins w lv l) (ht : Is w tv t) (hv : RsY w av ats) (hT : Tabs w) (htl : t.length ≤ 1048576) (hrl : ∀ r ∈ rs, r.1.length ≤ 1048576 ∧ r.2.length ≤ 1048576) :
  Calls Tryz.prog 8 #[.agg #[sv, rv], lv, tv, av] w fun e w' => e = .returned (.bool true) ∧ Below w.heap.size w w' := by
 obtain ⟨so, sc, rfl, hso, hsc, _⟩ := Row.flat hs
 obtain ⟨ro, rc, rfl, hro, hrc, _⟩ := Row.flat hr
 obtain ⟨lo, lc, rfl, _, hlcm, _⟩ := Row.flat hl
 obtain ⟨tq, tc, rfl, _, _, _⟩ := Row.flat ht
 unfold maxLen at hrc hlcm
 have HLim := hid hl.lim
 have HALim := hid (limY hv)
 have HSh := hid hsh
 have HS := hid hs
 have HR := hid hr
 have HL := hid hl
 have HTt := hid ht
 have HT := hid hT
 have HV := hid hv
 have HRl := hid hrl
 clear hs hr hl ht hT hsh hv hrl
 obtain ⟨wA, hwA⟩ : ∃ X, X = w.alloc (.cells #[.slice so sig.length sc, .slice ro rs.length rc] 64) := ⟨_, rfl⟩
 have CA : Hid (Below w.heap.size w wA) := by rw [hwA]; exact zA _
 have HC : Hid (∀ W, Below wA.heap.size wA W → W.cell? ⟨w.heap.size, 0, none⟩ = some (.slice so sig.length sc) ∧ W.cell? ⟨w.heap.size, 1, none⟩ = some (.slice ro rs.length rc)) := fun W hW => by
  have hk := zK hW
  rw [hwA] at hk
  exact ⟨hk.cell _ _ (xAB rfl), hk.cell _ _ (xAB rfl)⟩
 have HFa : Hid (∀ (W : World) (a b : List Int) (va vb : Value), Below w.heap.size w W → Is W va a → Is W vb b → a.length ≤ 1048576 → b.length ≤ 1048576 → Calls Tryz.prog 19 #[.slice so sig.length sc, .slice lo l.length lc, .agg #[va, vb]] W fun e w' => e = .returned (.tuple #[.int .i64 (fallN sig l a b), .int .i64 (fallE sig l a b)]) ∧ Below W.heap.size W w') := fun W a b va vb hW h1 h2 h3 h4 =>
  xCF _ _ va vb sig l a b W (HS.out.kp (zK hW)) (HL.out.kp (zK hW)) h1 h2 (HT.out.below hW) (by omega) (by omega)
 have HRi := hid fun (W : World) (hW : Below w.heap.size w W) => right12_any _ _ _ sig l t W (HS.out.kp (zK hW)) (HL.out.kp (zK hW)) (HTt.out.kp (zK hW)) (by omega)
 have HAll := hid fun (W : World) (hW : Below w.heap.size w W) => all_any _ _ _ sig rs t W (HS.out.kp (zK hW)) (HR.out.kp (zK hW)) (HTt.out.kp (zK hW)) (HT.out.below hW) htl
 have HDo : Hid (∀ (W : World) (p k : Int), Below w.heap.size w W → ((-9223372036854775808 ≤ p ∧ p ≤ 9223372036854775807) ∧ -9223372036854775808 ≤ k ∧ k ≤ 9223372036854775807) → Calls Tryz.prog 33 #[.agg #[.slice so sig.length sc, .slice ro rs.length rc], .slice tq t.length tc, .agg #[.int .i64 p, .int .i64 k]] W fun e w' => ∃ v', e = .returned (.tuple #[v', .int .i64 (doR sig rs t p k).2]) ∧ OwI w' W.heap.size v' (doR sig rs t p k).1 ∧ Below W.heap.size W w') := fun W p k hW hb =>
  do_any _ _ _ sig rs t p k W (HS.out.kp (zK hW)) (HR.out.kp (zK hW)) (HTt.out.kp (zK hW)) (HT.out.below hW) htl hb.1.1 hb.1.2 hb.2.1 hb.2.2
 go_enter Tryz.func8, Tryz.ntmps8
 go_wp2_with fail
 rw [← hwA]
 clear hwA
 refine (HSh.out wA (HT.out.below CA.out)).mono ?_
 rintro e w1 ⟨rfl, hb1⟩
 have D1 := hid hb1
 have C1 := hid (zS CA.out hb1)
 clear hb1 HSh
 obtain ⟨x0, x1⟩ := HC.out w1 D1.out
 go_wp2
 go_loopw [10, 11, 12, 13] (fun m i _ _ wr => ∃ (k : Nat) (n : Int), k ≤ rs.length ∧ i = .int .i64 k ∧ m = .int .i64 n ∧ 0 ≤ n ∧ n ≤ 2 ∧ (∀ r ∈ rs.take k, fallE sig l r.1 r.2 = 0 ∧ n ≤ fallN sig l r.1 r.2) ∧ Below w1.heap.size w1 wr) (fun _ i _ _ _ => rs.length - (intOf i).toNat)
 case atStart => exact ⟨0, 2, Nat.zero_le _, rfl, rfl, by omega, by omega, fun r hr => by simp at hr, Below.refl _ _⟩
 case round =>
  clear x0 x1
  obtain ⟨k, n, hk, rfl, rfl, hn0, hn2, hfa, hbl⟩ := hrel
  have HF := hid hfa
  have HB := hid hbl
  have Cr := hid (zS C1.out hbl)
  have Dr := hid (zS D1.out hbl)
  clear hfa hbl
  obtain ⟨x0, x1⟩ := HC.out wr Dr.out
  by_cases hlt : k < rs.length
  ·as_aux_lemma =>
    have hdj : decide ((k : Int) < (rs.length : Int)) = true := by simpa using hlt
    obtain ⟨g, off, a, b, a1, c1, a2, c2, rfl, hm, e0, e1, hi1, hi2, hl1, hl2⟩ := (HR.out.kp (zK Cr.out)).at hlt
    have HM := hid hm
    have hbd := HRl.out _ (zD hm)
    have HCl := hid (HFa.out wr.drew a b _ _ (zS Cr.out (xAF _)) (hi1.kp (zK (xAF _))) (hi2.kp (zK (xAF _))) hbd.1 hbd.2)
    clear hm hi1 hi2
    go_upto_region 8 with fail
    go_cut [12, 13] from 37 to 48 (fun x y wx => x = .int .i64 (fallN sig l a b) ∧ y = .int .i64 (fallE sig l a b) ∧ Below wr.heap.size wr wx)
    case first =>
     go_region_with (first
      | (refine HCl.out.mono ?_; rintro e w5 ⟨rfl, hb5⟩; have J5 := hid (zS (Below.refl _ _).drew hb5); clear hb5))
     all_goals (
      simp only [Act.put, sD, sE, sF, sA, sC, sB]
      go_wp2
      go_meet
      case rel => exact ⟨rfl, rfl, J5.out⟩)
    obtain ⟨rfl, rfl, hj5⟩ := hcut
    obtain ⟨w5, hw5⟩ : ∃ W, W = wc := ⟨_, rfl⟩
    rw [← hw5] at hj5 ⊢
    have J5 := hid (zS HB.out hj5)
    have C5 := hid (zS Cr.out hj5)
    clear hw5 HCl hj5 x0 x1 e0 e1
    obtain ⟨hr0, hr2⟩ := fallN_range sig l a b
    by_cases hE : fallE sig l a b = 0
    ·as_aux_lemma =>
      have HE := hid hE
      obtain ⟨F, hF⟩ : ∃ F, F = fallN sig l a b := ⟨_, rfl⟩
      rw [← hF] at hr0 hr2 ⊢
      have HFn := hid hF
      rw [hE]
      clear hE hF
      have HN : Hid (∀ r ∈ rs.take (k + 1), fallE sig l r.1 r.2 = 0 ∧ min n F ≤ fallN sig l r.1 r.2) := fun r hr => by
       rw [xAM HM.out] at hr
       rcases yE.1 hr with hr | hr
       ·have := HF.out r hr
        exact ⟨this.1, by omega⟩
       rw [yR] at hr
       subst hr
       exact ⟨HE.out, by rw [← HFn.out]; omega⟩
      go_wp2
      go_roundw
      case rel => exact ⟨k + 1, min n F, hlt, by go_num, by trivial, by omega, by omega, HN.out, J5.out⟩
      case measure => simp only [intOf]; omega
    as_aux_lemma =>
     have hne : (fallE sig l a b != 0) = true := by rw [bne_iff_ne]; exact hE
     have hz : fallN sig l a b = 0 := by unfold fallN; rw [if_neg hE]
     rw [hz]
     clear hE hz hr0 hr2
     generalize fallE sig l a b = z at hne ⊢
     go_wp2
     go_ret
     exact ⟨rfl, C5.out⟩
  as_aux_lemma =>
   have hdj : decide ((k : Int) < (rs.length : Int)) = false := by simpa using (show ¬ (k : Int) < (rs.length : Int) by omega)
   have HFall : Hid (∀ r ∈ rs, fallE sig l r.1 r.2 = 0 ∧ n ≤ fallN sig l r.1 r.2) := fun r hr => HF.out r (by rw [zO (by omega)]; exact hr)
   clear HF HFa
   go_wp2_with fail
   refine (xBC _ _ sig l wr (HS.out.kp (zK Cr.out)) (HL.out.kp (zK Cr.out)) (HT.out.below Cr.out)).mono ?_
   rintro e w2 ⟨rfl, hb2⟩
   have C2 := hid (zS Cr.out hb2)
   have D2 := hid (zS Dr.out hb2)
   clear hb2 x0 x1 Cr Dr HB
   obtain ⟨S, hS⟩ : ∃ S, S = strB sig l := ⟨_, rfl⟩
   rw [← hS]
   have HSt := hid hS
   clear hS
   obtain ⟨x0, x1⟩ := HC.out w2 D2.out
   by_cases hnz : n = 0
   ·as_aux_lemma =>
     have hd0 : (n == 0) = true := by simpa using hnz
     go_wp2
     go_ret
     exact ⟨rfl, C2.out⟩
   have hd0 : (n == 0) = false := by simpa using hnz
   have HCr := hid (HRi.out w2 C2.out)
   obtain ⟨Q, hQ⟩ : ∃ Q, Q = decide (inE sig l = 0 ∧ termE sig t = 0) := ⟨_, rfl⟩
   rw [← hQ] at HCr
   have HQ := hid hQ
   clear hQ
   go_wp2_with fail
   refine HCr.out.mono ?_
   rintro e w3 ⟨rfl, hb3⟩
   have C3 := hid (zS C2.out hb3)
   have D3 := hid (zS D2.out hb3)
   clear hb3 x0 x1 C2 D2 HCr HRi
   obtain ⟨x0, x1⟩ := HC.out w3 D3.out
   cases Q
   ·as_aux_lemma =>
     go_wp2
     go_ret
     exact ⟨rfl, C3.out⟩
   have HR2 := hid (of_decide_eq_true HQ.out.symm)
   clear HQ
   go_wp2_with fail
   refine (small12_any _ ats w3 (HV.out.kp (zK C3.out))).mono ?_
   rintro e w4 ⟨rfl, hw4⟩
   have hw4' := hw4.symm
   subst hw4'
   clear hw4
   cases hsm : ats.all rightB
   ·as_aux_lemma =>
     go_wp2
     go_ret
     exact ⟨rfl, C3.out⟩
   have HSm : Hid (∀ x ∈ ats, Lim x ∧ rightB x = true) := fun x hx => ⟨HALim.out x hx, List.all_eq_true.1 hsm x hx⟩
   have HC3 := hid (xGA (ats := ats) HR2.out.1 HLim.out t.length t (Nat.le_refl _) (xAE HR2.out.2).2 (fun _ => true) w w3 _ _ av tq tc t [] (fun _ _ => rfl) C3.out (HS.out.kp (zK C3.out)) (HL.out.kp (zK C3.out)) ((HV.out.kp (zK C3.out)).kp (true_kp _)) (zV _).symm HTt.out)
   clear hsm
   go_wp2_with fail
   refine HC3.out.mono ?_
   rintro e w5 ⟨hb5, hvd⟩
   obtain ⟨xv, rv, ok, ys, rfl, hys, hok⟩ := vdO_two hvd
   have HOk : Hid (ok = true → valO sig l ats t = some ys) := hok
   have HYs : Hid (Sl w5 xv ys) := hys.kp (only_kp _ _)
   have C5 := hid (zS C3.out hb5)
   have D5 := hid (zS D3.out hb5)
   clear hb5 hvd hok hys HC3 x0 x1 C3 D3
   obtain ⟨x0, x1⟩ := HC.out w5 D5.out
   have HCa := hid (HAll.out w5 C5.out)
   clear HAll
   go_wp2_with fail
   refine HCa.out.mono ?_
   rintro e w6 ⟨v6, rfl, o6, hb6⟩
   obtain ⟨L, hL⟩ : ∃ L, L = allR sig rs t := ⟨_, rfl⟩
   rw [← hL] at o6
   have HLe := hid hL
   have HO6 := hid o6.xs
   have HOx := hid o6.1
   have C6 := hid (zS C5.out hb6)
   have D6 := hid (zS D5.out hb6)
   have HYs6 := hid (HYs.out.kp (zK hb6))
   obtain ⟨xo, xc, hv6, hlc1, hlc2⟩ := o6.shape
   subst hv6
   unfold maxLen at hlc2
   clear hL o6 hb6 x0 x1 HCa C5 D5 HYs
   go_wp2
   go_loopw [19, 20, 21, 22, 23, 24, 25, 26] (fun i _ _ _ _ _ _ _ wx => ∃ j : Nat, j ≤ L.length ∧ i = .int .i64 j ∧ Below w6.heap.size w6 wx) (fun i _ _ _ _ _ _ _ _ => L.length - (intOf i).toNat)
   case atStart => exact ⟨0, Nat.zero_le _, rfl, Below.refl _ _⟩
   case round =>
    obtain ⟨j, hj, rfl, hbx⟩ := hrel
    have HBx := hid hbx
    have Cx := hid (zS C6.out hbx)
    have Dx := hid (zS D6.out hbx)
    clear hbx
    by_cases hjl : j < L.length
    ·have hdl : decide ((j : Int) < (L.length : Int)) = true := by simpa using hjl
     cases ok
     ·as_aux_lemma =>
       go_wp2
       go_ret
       exact ⟨rfl, Cx.out⟩
     obtain ⟨g, off, p, k, rfl, hx, e0, e1⟩ := (HO6.out.kp (zK HBx.out)).at hjl
     have hmem := zD hx
     have hbk := HOx.out _ hmem
     rw [HLe.out] at hmem
     have HMem := hid (allR_mem hmem)
     obtain ⟨x0, x1⟩ := HC.out wr Dx.out
     have HCl := hid (HDo.out wr.drew p k (zS Cx.out (xAF _)) hbk)
     clear hx hmem hbk
     go_upto_region 20 with fail
     go_cut [20, 21] from 101 to 110 (fun x y wy => y = .int .i64 (doR sig rs t p k).2 ∧ Is wy x (doR sig rs t p k).1 ∧ Below wr.heap.size wr wy)
     case first =>
      go_region_with (first
       | (refine HCl.out.mono ?_; rintro e w7 ⟨v7, rfl, o7, hb7⟩; have HO7 := hid o7.is; have J7 := hid (zS (Below.refl _ _).drew hb7); clear o7 hb7))
      all_goals (
       simp only [Act.put, sD, sE, sF, sA, sC, sB]
       go_wp2
       go_meet
       case rel => exact ⟨rfl, HO7.out, J7.out⟩)
     obtain ⟨rfl, ho7, hj7⟩ := hcut
     obtain ⟨w7, hw7⟩ : ∃ W, W = wc := ⟨_, rfl⟩
     rw [← hw7] at ho7 hj7 ⊢
     have HU := hid ho7
     have C7 := hid (zS Cx.out hj7)
     have D7 := hid (zS Dx.out hj7)
     have B7 := hid (zS HBx.out hj7)
     clear hw7 HCl ho7 hj7 x0 x1 e0 e1
     obtain ⟨x0, x1⟩ := HC.out w7 D7.out
     by_cases hE : (doR sig rs t p k).2 = 0
     ·as_aux_lemma =>
       have HDw := hid (do_worth (ats := ats) HR2.out.1 HLim.out HSm.out HMem.out.1 HMem.out.2 hE (n := n) (by omega) HFall.out)
       simp only at HDw
       rw [hE]
       clear hE
       generalize (doR sig rs t p k).1 = u at HU HDw
       obtain ⟨uo, uc, rfl, _, _, _⟩ := Row.flat HU.out
       have HTe : Hid (termE sig u = 0) := HDw.out.1
       have hul := HDw.out.2.1
       go_wp2_with fail
       refine (refCheck_any _ _ sig u w7 (HS.out.kp (zK C7.out)) HU.out (by omega)).mono ?_
       rintro e w8 ⟨rfl, hb8⟩
       rw [HTe.out]
       have C8 := hid (zS C7.out hb8)
       have D8 := hid (zS D7.out hb8)
       have J8 := hid hb8
       have B8 := hid (zS B7.out hb8)
       clear hb8 x0 x1 C7 D7
       obtain ⟨x0, x1⟩ := HC.out w8 D8.out
       have HC9 := hid (xGA (ats := ats) HR2.out.1 HLim.out u.length u (Nat.le_refl _) (xAE HTe.out).2 (fun _ => true) w7 w8 _ _ av uo uc u [] (fun _ _ => rfl) J8.out (HS.out.kp (zK C8.out)) (HL.out.kp (zK C8.out)) ((HV.out.kp (zK C8.out)).kp (true_kp _)) (zV _).symm HU.out)
       go_wp2_with fail
       refine HC9.out.mono ?_
       rintro e w9 ⟨hb9, hvd⟩
       obtain ⟨uv, rv2, fine, zs, rfl, hzs, hfine⟩ := vdO_two hvd
       have HFi : Hid (fine = true → valO sig l ats u = some zs) := hfine
       have HZs : Hid (Sl w9 uv zs) := hzs.kp (only_kp _ _)
       have C9 := hid (zS C8.out hb9)
       have B9 := hid (zS B8.out hb9)
       clear hb9 hvd hfine hzs HC9 x0 x1 C8 D8 J8 B8
       go_wp2_with fail
       refine (cmp_any xv uv ys zs w9 (HYs6.out.kp (zK B9.out)) HZs.out).mono ?_
       rintro e w10 ⟨rfl, n10, hw10⟩
       have C10 := hid (zS C9.out (xAX hw10))
       have B10 := hid (zS B9.out (xAX hw10))
       clear hw10 C9 B9
       cases fine
       ·as_aux_lemma =>
         go_wp2
         go_roundw
         case rel => exact ⟨j + 1, hjl, by go_num, B10.out⟩
         case measure => simp only [intOf]; omega
       have h1 := HOk.out (by trivial)
       have h2 := HFi.out (by trivial)
       have ha := sigE_ok (inE_ok HR2.out.1).1
       have hv := HDw.out.2.2 ys zs h1 h2
       obtain ⟨q1, q2, q3⟩ := cmp_ge (valO_right ha HLim.out HSm.out (xAE HR2.out.2).2 h1) (valO_right ha HLim.out HSm.out (xAE HTe.out).2 h2) hv.1
       rw [q1]
       by_cases hc : cmpV ys zs = 0
       ·rw [hc]
        cases S
        ·as_aux_lemma =>
          go_wp2
          go_roundw
          case rel => exact ⟨j + 1, hjl, by go_num, B10.out⟩
          case measure => simp only [intOf]; omega
        have hn : (n == 2) = false := by
         rw [zY]
         intro hn2
         have hri : allRis sig l = true := by
          have := HSt.out
          unfold strB at this
          simp only [Bool.true_eq, Bool.and_eq_true] at this
          exact this.2
         have := q3 (hv.2 hn2 hri)
         rw [hc] at this
         exact absurd this (by decide)
        clear hv q1 q2 q3 h1 h2 ha hc
        as_aux_lemma =>
         go_wp2
         go_roundw
         case rel => exact ⟨j + 1, hjl, by go_num, B10.out⟩
         case measure => simp only [intOf]; omega
       have hc1 : cmpV ys zs = 1 := q2.resolve_left hc
       rw [hc1]
       clear hv q1 q2 q3 h1 h2 ha hc hc1
       as_aux_lemma =>
        go_wp2
        go_roundw
        case rel => exact ⟨j + 1, hjl, by go_num, B10.out⟩
        case measure => simp only [intOf]; omega
     as_aux_lemma =>
      have hne : ((doR sig rs t p k).2 != 0) = true := by rw [bne_iff_ne]; exact hE
      clear hE
      generalize (doR sig rs t p k).2 = z at hne ⊢
      go_wp2
      go_roundw
      case rel => exact ⟨j + 1, hjl, by go_num, B7.out⟩
      case measure => simp only [intOf]; omega
    as_aux_lemma =>
     have hdl : decide ((j : Int) < (L.length : Int)) = false := by simpa using (show ¬ (j : Int) < (L.length : Int) by omega)
     go_wp2
     go_ret
     exact ⟨rfl, Cx.out⟩
end Go.Proofs.YtdjmjhlbjcgoiaaGreatDoor
