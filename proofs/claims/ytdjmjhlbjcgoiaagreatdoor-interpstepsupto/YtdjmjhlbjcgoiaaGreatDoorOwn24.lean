/- Texts of the proof, one behind the other. -/
import Derived.Test.YtdjmjhlbjcgoiaaGreatDoorOwn23
import Derived.Test.YtdjmjhlbjcgoiaaGreatDoorOwn20
import Derived.Test.YtdjmjhlbjcgoiaaGreatDoorOwn6
set_option maxRecDepth 1000000
set_option maxHeartbeats 6400000
namespace Go.Proofs.YtdjmjhlbjcgoiaaGreatDoor
open Go.RowKit Go.Maps Go.BigFrame
theorem stableNil_any (w : World) : Calls Tryz.prog 130 #[.slice none 0 0, .int .i64 0, cmpF] w fun e w' => e = .returned (.tuple #[]) ∧ w' = w := by
 go_enter Tryz.func130, Tryz.ntmps130
 go_wp2
 go_loopw [7, 8] (fun av bv wr => av = .int .i64 0 ∧ bv = .int .i64 20 ∧ wr = w) (fun _ _ _ => 0)
 case atStart => exact ⟨rfl, rfl, rfl⟩
 case round =>
  obtain ⟨rfl, rfl, hw⟩ := hrel
  have hw8 := hw.symm
  subst hw8
  go_wp2_with fail
  refine (xEM _ _ 0 w (by omega)).mono ?_
  rintro e w1 ⟨rfl, hw1⟩
  have hw9 := hw1.symm
  subst hw9
  clear hw1 hw
  go_wp2
  go_loopw [6] (fun bv wr => bv = .int .i64 20 ∧ wr = w) (fun _ _ => 0)
  case atStart => exact ⟨rfl, rfl⟩
  case round =>
   obtain ⟨rfl, hw⟩ := hrel
   have hw8 := hw.symm
   subst hw8
   go_wp2
   go_end0
   exact ⟨rfl, rfl⟩
theorem sortStable_any (base : Nat) (v : Value) (d : List Rx) (w : World) (h : OX w base v d) (hl : d.length ≤ 1152921504606846976) :
  Calls Tryz.prog 76 #[v, cmpF] w fun e w' => ∃ M, e = .returned (.tuple #[]) ∧ (UpS M ∧ Fil M d) ∧ OX w' base v M ∧ w.grownBy w' v.ownBlock := by
 have HO := hid h
 by_cases h0 : v = .slice none 0 0
 ·subst h0
  have hd : d = [] := zE h.len
  subst hd
  clear h
  go_enter Tryz.func76, Tryz.ntmps76
  go_wp2_with fail
  refine (stableNil_any w).mono ?_
  rintro e w1 ⟨rfl, hw1⟩
  have hw9 := hw1.symm
  subst hw9
  clear hw1
  go_wp2
  go_end0
  exact ⟨[], rfl, ⟨List.Pairwise.nil, Fil.refl _⟩, HO.out, World.grownBy.refl _ _⟩
 obtain ⟨g, cap, hv, hcap, hm⟩ : ∃ g cap, v = .slice (some ⟨g, 0, none⟩) d.length cap ∧ d.length ≤ cap ∧ cap ≤ 9223372036854775807 := by
  rcases h.2.2 with ⟨hv, _⟩ | ⟨g, cap, cur, hv, hb, hg, hc, hm, hs, ht⟩
  ·exact absurd hv h0
  exact ⟨g, cap, hv, hc, by unfold maxLen at hm; omega⟩
 subst hv
 obtain ⟨L, hL⟩ : ∃ L, L = d.length := ⟨_, rfl⟩
 rw [← hL] at HO hcap hl ⊢
 clear h h0 hL
 go_enter Tryz.func76, Tryz.ntmps76
 go_wp2_with fail
 refine (stable_any g cap base L d w HO.out hcap hm hl).mono ?_
 rintro e w1 ⟨M, rfl, hM, o1, g1⟩
 have HM := hid hM
 have O1 := hid o1
 have G1 := hid g1
 clear hM o1 g1
 go_wp2
 go_end0
 exact ⟨M, rfl, HM.out, O1.out, G1.out⟩
def arC (sig : List Sy) (c : Int) : Int := if c < 0 then 0 else ((sig[c.toNat]?).map Prod.snd).getD 0
theorem arity_any (sv : Value) (sig : List Sy) (c : Int) (w : World) (hs : Sg w sv sig) (hc : c < (sig.length : Int)) :
  Calls Tryz.prog 128 #[sv, .int .i64 c] w fun e w' => e = .returned (.int .i64 (arC sig c)) ∧ w' = w := by
 obtain ⟨so, sc, rfl, hso, hsc, _⟩ := Row.flat hs
 unfold maxLen at hsc
 by_cases h0 : c < 0
 ·have hd : decide (c < 0) = true := by simpa using h0
  have HF : Hid (arC sig c = 0) := by show _ = _; unfold arC; rw [if_pos h0]
  clear hs
  go_enter Tryz.func128, Tryz.ntmps128
  go_wp2
  go_ret
  exact ⟨ret1i HF.out.symm, rfl⟩
 obtain ⟨n, rfl⟩ : ∃ n : Nat, c = (n : Int) := ⟨c.toNat, by omega⟩
 obtain ⟨g, off, s, a, rfl, hm, hc0, hc1, _⟩ := hs.at (k := n) (by omega)
 have HF : Hid (arC sig (n : Int) = a) := by show _ = _; unfold arC; rw [if_neg h0, Int.toNat_natCast, hm]; rfl
 have hd : decide ((n : Int) < 0) = false := by simp
 have hlt : n < sig.length := by omega
 clear hs hm hc0
 go_enter Tryz.func128, Tryz.ntmps128
 go_wp2
 go_ret
 exact ⟨ret1i HF.out.symm, rfl⟩
def begB : List Int → List Int → Bool
 | [], _ => true
 | c :: l, t => if c < 0 then true else match t with | [] => false | x :: t => if c = x then begB l t else false
def Hit (sig : List Sy) (l t : List Int) : Prop := ∃ f, Rt sig f ∧ Sm f l t
theorem hit_beg {sig : List Sy} : ∀ (l t : List Int), Hit sig l t → begB l t = true
 | [], t, _ => rfl
 | c :: l, t, ⟨f, hf, h1, h2⟩ => by
  unfold begB
  by_cases h0 : c < 0
  ·rw [if_pos h0]
  rw [if_neg h0]
  rw [xDB] at h2
  have hp : piece f c = [c] := by unfold piece; rw [if_neg h0]
  rw [hp] at h2
  cases t with
  | nil => simp at h2
  | cons x t =>
   simp only [yG, yH, List.cons.injEq] at h2
   show (if c = x then begB l t else false) = true
   rw [if_pos h2.1]
   exact hit_beg l t ⟨f, hf, fun d hd => h1 d (zT _ hd), h2.2⟩
theorem no_prefix {sig : List Sy} {l t : List Int} (hl : rowE sig l = 0) (ht : rowE sig t = 0) {k : Nat} (he : l.take k = t.take k) (hk : k < l.length) : k < t.length := by
 by_cases h : k < t.length
 ·exact h
 exfalso
 rw [zO (show t.length ≤ k by omega)] at he
 have e : l = t ++ l.drop k := by rw [← he, zQ]
 have h1 := xCL ht (l.drop k)
 rw [← e] at h1
 have h2 := xCL hl []
 rw [zV, h1] at h2
 have h3 : (t.length : Int) = l.length := congrArg Prod.fst h2
 have h4 : t.length = min k l.length := by rw [← he, zH]
 omega
theorem begins_any (lv tv : Value) (sig : List Sy) (l t : List Int) (w : World) (hl : Is w lv l) (ht : Is w tv t) (hrl : rowE sig l = 0) (hrt : rowE sig t = 0) :
  Calls Tryz.prog 129 #[lv, tv] w fun e w' => e = .returned (.bool (begB l t)) ∧ w' = w := by
 obtain ⟨lo, lc, rfl, hlo, hlc, _⟩ := hl.flatI
 obtain ⟨to2, tc, rfl, hto, htc, _⟩ := ht.flatI
 have HL := hid hl
 have HT := hid ht
 have HP : Hid (∀ k, l.take k = t.take k → k < l.length → k < t.length) := fun k h1 h2 => no_prefix hrl hrt h1 h2
 clear hl ht hrl hrt
 go_enter Tryz.func129, Tryz.ntmps129
 go_wp2
 go_loopw [9] (fun iv wr => ∃ k : Nat, k ≤ l.length ∧ iv = .int .i64 k ∧ l.take k = t.take k ∧ begB l t = begB (l.drop k) (t.drop k) ∧ wr = w) (fun iv _ => l.length - (intOf iv).toNat)
 case atStart => exact ⟨0, Nat.zero_le _, rfl, by simp, by simp, rfl⟩
 case round =>
  obtain ⟨k, hk, rfl, he, hb, hw⟩ := hrel
  have hw8 := hw.symm
  subst hw8
  have HEq := hid he
  have HB := hid hb
  clear hw he hb
  by_cases hlt : k < l.length
  ·have hlt2 := HP.out k HEq.out hlt
   obtain ⟨g, off, c, rfl, hc1, hc2, _, _⟩ := HL.out.at hlt
   obtain ⟨g2, off2, x, rfl, hx1, hx2, _, _⟩ := HT.out.at hlt2
   have HD : Hid (begB l t = if c < 0 then true else if c = x then begB (l.drop (k + 1)) (t.drop (k + 1)) else false) := by
    show _ = _
    rw [HB.out, xAR hc1, xAR hx1]
    rfl
   have HC := hid hc1
   have HX := hid hx1
   clear hc1 hx1 HB
   by_cases h0 : c < 0
   ·have hd : decide (c < 0) = true := by simpa using h0
    have HF : Hid (begB l t = true) := by show _ = _; rw [HD.out, if_pos h0]
    go_wp2
    go_ret
    exact ⟨ret1b HF.out.symm, rfl⟩
   have hd : decide (c < 0) = false := by simpa using h0
   by_cases hcx : c = x
   ·have hne : (c != x) = false := by simpa using hcx
    have HF : Hid (begB l t = begB (l.drop (k + 1)) (t.drop (k + 1))) := by show _ = _; rw [HD.out, if_neg h0, if_pos hcx]
    have HN : Hid (l.take (k + 1) = t.take (k + 1)) := by show _ = _; rw [xAM HC.out, xAM HX.out, HEq.out, hcx]
    clear hcx
    go_wp2
    go_roundw
    case rel => exact ⟨k + 1, hlt, by go_num, HN.out, HF.out, trivial⟩
    case measure => simp only [intOf]; omega
   have hne : (c != x) = true := by rw [bne_iff_ne]; exact hcx
   have HF : Hid (begB l t = false) := by show _ = _; rw [HD.out, if_neg h0, if_neg hcx]
   clear hcx
   go_wp2
   go_ret
   exact ⟨ret1b HF.out.symm, rfl⟩
  have HF : Hid (begB l t = true) := by show _ = _; rw [HB.out, zP (by omega)]; rfl
  go_wp2
  go_ret
  exact ⟨ret1b HF.out.symm, rfl⟩
noncomputable def hitB (sig : List Sy) (l t : List Int) : Bool := @decide (Hit sig l t) (Classical.propDecidable _)
theorem hitB_true {sig : List Sy} {l t : List Int} (h : Hit sig l t) : hitB sig l t = true := @decide_eq_true _ (Classical.propDecidable _) h
theorem hitB_false {sig : List Sy} {l t : List Int} (h : ¬ Hit sig l t) : hitB sig l t = false := @decide_eq_false _ (Classical.propDecidable _) h
theorem matches_any (sv lv rv tv : Value) (sig : List Sy) (l r t : List Int) (w : World) (hs : Sg w sv sig) (hl : Is w lv l) (hr : Is w rv r) (ht : Is w tv t) (hT : Tabs w) (htl : termE sig l = 0) (htt : termE sig t = 0) (h1 : l.length * 32 ≤ 140737488351232) (h2 : t.length * 16 ≤ 140737488351232) :
  Calls Tryz.prog 75 #[sv, .agg #[lv, rv], tv] w fun e w' => e = .returned (.bool (hitB sig l t)) ∧ Below w.heap.size w w' := by
 obtain ⟨a1, c1, e1, _⟩ := hl.flatI
 subst e1
 obtain ⟨a2, c2, e2, _⟩ := hr.flatI
 subst e2
 have HS := hid hs
 have HL := hid hl
 have HTt := hid ht
 have HT := hid hT
 have HRl := hid htl
 have HRt := hid htt
 clear hs hl hr ht hT htl htt
 obtain ⟨w0, hw0⟩ : ∃ X, X = w.alloc (.cells #[.slice a1 l.length c1, .slice a2 r.length c2] 41) := ⟨_, rfl⟩
 have C0 : Hid (Below w.heap.size w w0) := by rw [hw0]; exact zA _
 have x0 : w0.cell? ⟨w.heap.size, 0, none⟩ = some (.slice a1 l.length c1) := by rw [hw0]; exact xAB rfl
 go_enter Tryz.func75, Tryz.ntmps75
 go_wp2_with fail
 rw [← hw0]
 clear hw0
 refine (begins_any _ _ sig l t w0 (HL.out.kp (zK C0.out)) (HTt.out.kp (zK C0.out)) (xAE HRl.out).2 (xAE HRt.out).2).mono ?_
 rintro e w1 ⟨rfl, hw1⟩
 have hw8 := hw1.symm
 subst hw8
 clear hw1
 cases hbb : begB l t with
 | false =>
  have HF : Hid (hitB sig l t = false) := hitB_false fun h => by rw [hit_beg l t h] at hbb; cases hbb
  clear hbb
  go_wp2
  go_ret
  exact ⟨ret1b HF.out.symm, C0.out⟩
 | true =>
  clear hbb
  go_wp2_with fail
  refine (match_any _ _ _ sig l t w0 (HS.out.kp (zK C0.out)) (HL.out.kp (zK C0.out)) (HTt.out.kp (zK C0.out)) (HT.out.below C0.out) h1 h2).mono ?_
  rintro e w2 ⟨hb2, hres⟩
  have C2 := hid (zS C0.out hb2)
  rcases hres with ⟨rfl, hno⟩ | ⟨v, f, rfl, _, _, hf, hsm, hob⟩
  ·have HF : Hid (hitB sig l t = false) := hitB_false fun ⟨f, hf, h⟩ => by
    rcases hno with h9 | h9 | h9
    ·exact h9 HRl.out
    ·exact h9 HRt.out
    exact h9 f hf h
   clear hno hb2
   go_wp2
   go_ret
   exact ⟨ret1b HF.out.symm, C2.out⟩
  have HF : Hid (hitB sig l t = true) := hitB_true ⟨f, hf, hsm⟩
  clear hf hsm hob hb2
  go_wp2
  go_ret
  exact ⟨ret1b HF.out.symm, C2.out⟩
def stepE (sig : List Sy) (rs : List Rl) (t : List Int) : Int := if (sysE sig rs).1 = 0 then termE sig t else (sysE sig rs).1
theorem stepCheck_any (sv rv tv : Value) (sig : List Sy) (rs : List Rl) (t : List Int) (w : World) (hs : Sg w sv sig) (hr : RU w rv rs) (ht : Is w tv t) (hT : Tabs w) (h1 : t.length * 8 ≤ 140737488351232) :
  Calls Tryz.prog 72 #[.agg #[sv, rv], tv] w fun e w' => e = .returned (.int .i64 (stepE sig rs t)) ∧ Below w.heap.size w w' := by
 obtain ⟨so, sc, rfl, hso, hsc, _⟩ := Row.flat hs
 obtain ⟨ro, rc, rfl, hro, hrc, _⟩ := Row.flat hr
 have HS := hid hs
 have HR := hid hr
 have HTt := hid ht
 have HT := hid hT
 clear hs hr ht hT
 obtain ⟨w0, hw0⟩ : ∃ X, X = w.alloc (.cells #[.slice so sig.length sc, .slice ro rs.length rc] 64) := ⟨_, rfl⟩
 have C0 : Hid (Below w.heap.size w w0) := by rw [hw0]; exact zA _
 have HC : Hid (∀ W, Below w0.heap.size w0 W → W.cell? ⟨w.heap.size, 0, none⟩ = some (.slice so sig.length sc)) := fun W hW => by
  have hk := zK hW
  rw [hw0] at hk
  exact hk.cell _ _ (xAB rfl)
 go_enter Tryz.func72, Tryz.ntmps72
 go_wp2_with fail
 rw [← hw0]
 clear hw0
 refine (sysCheck_any _ _ sig rs w0 (HS.out.kp (zK C0.out)) (HR.out.kp (zK C0.out)) (HT.out.below C0.out)).mono ?_
 rintro e w1 ⟨rfl, hb1⟩
 have C1 := hid (zS C0.out hb1)
 have x0 := HC.out w1 hb1
 clear hb1
 obtain ⟨E, hE⟩ : ∃ E, E = sysE sig rs := ⟨_, rfl⟩
 have HE : Hid (stepE sig rs t = if E.1 = 0 then termE sig t else E.1) := by show _ = _; unfold stepE; rw [hE]
 rw [← hE]
 clear hE
 obtain ⟨E1, E2⟩ := E
 by_cases h0 : E1 = 0
 ·subst h0
  go_wp2_with fail
  refine (xBP _ _ sig t w1 (HS.out.kp (zK C1.out)) (HTt.out.kp (zK C1.out)) (HT.out.below C1.out) h1).mono ?_
  rintro e w2 ⟨rfl, hb2⟩
  have C2 := hid (zS C1.out hb2)
  clear hb2 x0
  have HF : Hid (stepE sig rs t = termE sig t) := by show _ = _; rw [HE.out]; rfl
  generalize termE sig t = Z at HF ⊢
  go_wp2
  go_ret
  exact ⟨ret1i HF.out.symm, C2.out⟩
 have hne : (E1 != 0) = true := by rw [bne_iff_ne]; exact h0
 have HF : Hid (stepE sig rs t = E1) := by show _ = _; rw [HE.out, if_neg h0]
 clear h0
 go_wp2
 go_ret
 exact ⟨ret1i HF.out.symm, C1.out⟩
inductive Pv (sig : List Sy) : List Int → Nat → List (Nat × Nat) → Prop
 | mk (c : Int) (us : List (List Int)) (a : Nat) (vss : List (List (Nat × Nat))) (hc : c < (sig.length : Int)) (hn : (us.length : Int) = arC sig c) (hv : vss.length = us.length) (hr : rowE sig (c :: us.flatten) = 0)
   (h : ∀ (i : Nat) (u : List Int) (v : List (Nat × Nat)), us[i]? = some u → vss[i]? = some v → Pv sig u (a + 1 + (us.take i).flatten.length) v) : Pv sig (c :: us.flatten) a (vss.flatten ++ [(a, a + 1 + us.flatten.length)])
theorem term_split8 {sig : List Sy} (ha : ArOk sig) {c : Int} {r : List Int} (h : rowE sig (c :: r) = 0) : c < (sig.length : Int) ∧ ∃ us : List (List Int), (us.length : Int) = arC sig c ∧ r = us.flatten ∧ ∀ u ∈ us, rowE sig u = 0 := by
 have h1 := xAI.1 h
 rw [xAJ] at h1
 cases hd : codeD sig c with
 | none => rw [hd] at h1; simp at h1
 | some e =>
  rw [hd] at h1
  simp only at h1
  have hlt : c < (sig.length : Int) := by
   have : ¬ (sig.length : Int) ≤ c := fun h9 => by rw [xEC (.inl h9)] at hd; cases hd
   omega
  have he : 1 + e = arC sig c ∧ 0 ≤ arC sig c := by
   unfold codeD at hd
   unfold arC
   by_cases c1 : c < -1048576
   ·rw [if_pos c1] at hd; cases hd
   rw [if_neg c1] at hd
   by_cases c2 : c < 0
   ·rw [if_pos c2] at hd ⊢
    cases hd
    exact ⟨by omega, by omega⟩
   rw [if_neg c2] at hd ⊢
   cases hs : sig[c.toNat]? with
   | none => rw [hs] at hd; cases hd
   | some s =>
    rw [hs] at hd
    simp only [zX] at hd
    have := ha s (zD hs)
    simp only [Option.map_some, Option.getD_some]
    omega
  refine ⟨hlt, ?_⟩
  by_cases h0 : 1 + e = 0
  ·rw [if_pos h0] at h1
   have hl : r.length = 0 := by
    have := congrArg Prod.fst h1
    simp at this
    omega
   exact ⟨[], by simp; omega, by rw [zE hl]; rfl, fun u hu => by cases hu⟩
  rw [if_neg h0] at h1
  obtain ⟨m, hm⟩ : ∃ m : Nat, (m : Int) = 1 + e := ⟨(1 + e).toNat, by omega⟩
  rw [← hm] at h1
  obtain ⟨us, u1, u2, u3⟩ := xEH ha m r (0 + 1) (by omega) (by rw [h1]; simp only [zG, Prod.mk.injEq, and_true]; omega)
  exact ⟨us, by omega, u2, u3⟩
theorem flat_len8 {α : Type} {us : List (List α)} {u : List α} (h : u ∈ us) : u.length ≤ us.flatten.length := by
 obtain ⟨a, b, rfl⟩ := List.append_of_mem h
 rw [List.flatten_append, yT, zF, zF]
 omega
theorem pv_row {sig : List Sy} {n : Nat} (IH : ∀ u a, u.length ≤ n → rowE sig u = 0 → ∃ vs, Pv sig u a vs) : ∀ (us : List (List Int)) (b : Nat), (∀ u ∈ us, u.length ≤ n ∧ rowE sig u = 0) → ∃ vss : List (List (Nat × Nat)), vss.length = us.length ∧ ∀ (i : Nat) (u : List Int) (v : List (Nat × Nat)), us[i]? = some u → vss[i]? = some v → Pv sig u (b + (us.take i).flatten.length) v
 | [], b, _ => ⟨[], rfl, fun i u v h => by simp at h⟩
 | u :: us, b, h => by
  obtain ⟨v, hv⟩ := IH u b (h u (by simp)).1 (h u (by simp)).2
  obtain ⟨vss, hl, hvs⟩ := pv_row IH us (b + u.length) (fun x hx => h x (by simp [hx]))
  refine ⟨v :: vss, by simp [hl], fun i x y hx hy => ?_⟩
  cases i with
  | zero =>
   simp at hx hy
   subst hx hy
   simpa using hv
  | succ i =>
   simp only [yP] at hx hy
   have h9 := hvs i x y hx hy
   simp only [List.take_succ_cons, yT, zF]
   rw [← Nat.add_assoc]
   exact h9
theorem pv_any {sig : List Sy} (ha : ArOk sig) : ∀ (n : Nat) (u : List Int) (a : Nat), u.length ≤ n → rowE sig u = 0 → ∃ vs, Pv sig u a vs
 | 0, u, a, hl, h => by
  have := row_posS h
  omega
 | n + 1, u, a, hl, h => by
  cases u with
  | nil => have := row_posS h; simp at this
  | cons c r =>
   obtain ⟨hc, us, hn, rfl, hu⟩ := term_split8 ha h
   have hlen : us.flatten.length ≤ n := by simpa using hl
   obtain ⟨vss, hv, hvs⟩ := pv_row (pv_any ha n) us (a + 1) (fun u hu9 => ⟨Nat.le_trans (flat_len8 hu9) hlen, hu u hu9⟩)
   exact ⟨_, Pv.mk c us a vss hc hn hv h hvs⟩
def VOk (sig : List Sy) (t : List Int) (v : Nat × Nat) : Prop := v.1 < v.2 ∧ v.2 ≤ t.length ∧ rowE sig ((t.drop v.1).take (v.2 - v.1)) = 0
theorem xDI {α : Type} : ∀ {us : List (List α)} {i : Nat} {u : List α}, us[i]? = some u → us.flatten = (us.take i).flatten ++ u ++ (us.drop (i + 1)).flatten
 | [], i, u, h => by simp at h
 | x :: us, 0, u, h => by
  simp at h
  subst h
  simp
 | x :: us, i + 1, u, h => by
  have h9 := xDI (us := us) (i := i) (u := u) (by simpa using h)
  simp only [yT, List.take_succ_cons, List.drop_succ_cons]
  rw [h9]
  simp
theorem pv_ok {sig : List Sy} {u : List Int} {a : Nat} {vs : List (Nat × Nat)} (h : Pv sig u a vs) : ∀ (t p q : List Int), t = p ++ u ++ q → p.length = a → ∀ v ∈ vs, VOk sig t v := by
 induction h with
 | mk c us a vss hc hn hv hr h ih =>
  intro t p q ht hp v hvm
  rcases yE.1 hvm with hvm | hvm
  ·obtain ⟨vs, hvs, hvm⟩ := List.mem_flatten.1 hvm
   obtain ⟨i, hi⟩ := List.getElem?_of_mem hvs
   have hil : i < us.length := by have := (zB.1 hi).1; omega
   have hu : us[i]? = some us[i] := zC hil
   refine ih i us[i] vs hu hi t (p ++ c :: (us.take i).flatten) ((us.drop (i + 1)).flatten ++ q) ?_ (by simp [hp]; omega) v hvm
   rw [ht, xDI hu]
   simp
  rw [yR] at hvm
  subst hvm
  refine ⟨by simp only; omega, ?_, ?_⟩
  ·rw [ht]
   simp [hp]
   omega
  simp only
  have e : (t.drop a).take (a + 1 + us.flatten.length - a) = c :: us.flatten := by
   rw [ht, zR, ← hp, List.drop_left, show p.length + 1 + us.flatten.length - p.length = (c :: us.flatten).length by simp; omega, List.take_left]
  rw [e]
  exact hr
theorem pv_perm {sig : List Sy} {u : List Int} {a : Nat} {vs : List (Nat × Nat)} (h : Pv sig u a vs) : (vs.map Prod.fst).Perm (List.range' a u.length) := by
 induction h with
 | mk c us a vss hc hn hv hr h ih =>
  have key : ∀ (us : List (List Int)) (vss : List (List (Nat × Nat))) (b : Nat), vss.length = us.length → (∀ (i : Nat) (u : List Int) (v : List (Nat × Nat)), us[i]? = some u → vss[i]? = some v → (v.map Prod.fst).Perm (List.range' (b + (us.take i).flatten.length) u.length)) → (vss.flatten.map Prod.fst).Perm (List.range' b us.flatten.length) := by
   intro us
   induction us with
   | nil =>
    intro vss b hl _
    have : vss = [] := zE (by simpa using hl)
    subst this
    simp
   | cons u us ihu =>
    intro vss b hl hp
    cases vss with
    | nil => simp at hl
    | cons v vss =>
     have h0 := hp 0 u v rfl rfl
     have h1 := ihu vss (b + u.length) (by simpa using hl) (fun i x y hx hy => by
      have h9 := hp (i + 1) x y (by simpa using hx) (by simpa using hy)
      simp only [List.take_succ_cons, yT, zF] at h9
      rw [← Nat.add_assoc] at h9
      exact h9)
     simp only [yT, yI, zF]
     rw [← List.range'_append_1]
     simp only [List.take_zero, List.flatten_nil, List.length_nil, Nat.add_zero] at h0
     exact h0.append h1
  have h9 := key us vss (a + 1) hv (fun i u v hx hy => ih i u v hx hy)
  rw [yI]
  simp only [yW, List.map_nil, zG]
  rw [List.range'_succ]
  exact (h9.append_right [a]).trans List.perm_append_comm
def upto (s : Nat × Nat → Bool) : List (Nat × Nat) → List (Nat × Nat)
 | [] => []
 | v :: vs => v :: (if s v then [] else upto s vs)
theorem upto_no {s : Nat × Nat → Bool} : ∀ {a : List (Nat × Nat)} (b : List (Nat × Nat)), a.any s = false → upto s (a ++ b) = a ++ upto s b
 | [], b, _ => rfl
 | v :: a, b, h => by
  rw [List.any_cons, Bool.or_eq_false_iff] at h
  rw [yG, upto, h.1, upto_no b h.2]
  rfl
theorem upto_yes {s : Nat × Nat → Bool} : ∀ {a : List (Nat × Nat)} (b : List (Nat × Nat)), a.any s = true → upto s (a ++ b) = upto s a
 | [], b, h => by simp at h
 | v :: a, b, h => by
  rw [yG, upto, upto]
  cases hv : s v with
  | true => rfl
  | false =>
   rw [List.any_cons, hv, Bool.false_or] at h
   rw [upto_yes b h]
theorem upto_all {s : Nat × Nat → Bool} {a : List (Nat × Nat)} (h : a.any s = false) : upto s a = a := by
 have := upto_no [] h
 rw [zV] at this
 rw [this]
 simp [upto]
theorem pv_len {sig : List Sy} {u : List Int} {a : Nat} {vs : List (Nat × Nat)} (h : Pv sig u a vs) : vs.length = u.length := by
 have h9 := (pv_perm h).length_eq
 simpa using h9
theorem lens_take {α β : Type} {us : List (List α)} {vss : List (List β)} (hl : vss.length = us.length) (h : ∀ (i : Nat) (u : List α) (v : List β), us[i]? = some u → vss[i]? = some v → v.length = u.length) (i : Nat) : (vss.take i).flatten.length = (us.take i).flatten.length := by
 have e : vss.map List.length = us.map List.length := by
  apply List.ext_getElem (by simp [hl])
  intro k h1 h2
  rw [zJ] at h1 h2
  rw [List.getElem_map, List.getElem_map]
  exact h k _ _ (zC h2) (zC h1)
 rw [List.length_flatten, List.length_flatten, List.map_take, List.map_take, e]
def Keep (B : Nat) (w w' : World) : Prop := w.heap.size ≤ w'.heap.size ∧ ∀ (k : Nat) (o : Obj), k ≠ B → w.heap[k]? = some o → (∀ cs fr, o ≠ .cells cs 69 fr) → w'.heap[k]? = some o
theorem Keep.refl (B : Nat) (w : World) : Keep B w w := ⟨Nat.le_refl _, fun _ _ _ h _ => h⟩
theorem Keep.trans {B : Nat} {w w' w'' : World} (h : Keep B w w') (h' : Keep B w' w'') : Keep B w w'' := ⟨Nat.le_trans h.1 h'.1, fun k o hk ho hr => h'.2 k o hk (h.2 k o hk ho hr) hr⟩
theorem Keep.of_below {B : Nat} {w w' : World} (h : Below w.heap.size w w') : Keep B w w' := ⟨h.size, fun k o _ ho _ => ((xAA h none).block k (zL.1 ho).1 (by simp)).trans ho⟩
abbrev withinF (b : Nat) : Value := .func (.func 127) #[] #[.pointer (some ⟨b, 0, none⟩), .pointer (some ⟨b + 1, 0, none⟩), .pointer (some ⟨b + 3, 0, none⟩), .pointer (some ⟨b + 2, 0, none⟩)]
structure Gv (w : World) (b : Nat) (sv tv lv : Value) : Prop where
 sig : w.heap[b]? = some (.cells #[sv] 22)
 trm : w.heap[b + 1]? = some (.cells #[tv] 30)
 look : w.heap[b + 2]? = some (.cells #[lv] 120)
 self : w.heap[b + 3]? = some (.cells #[withinF b] 178)
theorem Gv.keep {w w' : World} {b B : Nat} {sv tv lv : Value} (h : Gv w b sv tv lv) (hk : Keep B w w') (hB : B < b) : Gv w' b sv tv lv :=
 ⟨hk.2 _ _ (by omega) h.sig (fun cs fr e => by cases e), hk.2 _ _ (by omega) h.trm (fun cs fr e => by cases e), hk.2 _ _ (by omega) h.look (fun cs fr e => by cases e), hk.2 _ _ (by omega) h.self (fun cs fr e => by cases e)⟩
structure Lk (sig : List Sy) (t : List Int) (w0 : World) (B : Nat) (F : FuncId) (caps : Array Value) (stop : Nat × Nat → Bool) (Inv : List (Nat × Nat) → World → Prop) : Prop where
 call : ∀ (vs : List (Nat × Nat)) (x y : Nat) (pv : Value) (W : World), VOk sig t (x, y) → vs.length < t.length → Inv vs W → Below w0.heap.size w0 W → Is w0 pv ((t.drop x).take (y - x)) → Calls Tryz.prog F (#[.int .i64 (x : Int), pv] ++ caps) W fun e w' => e = .returned (.bool (stop (x, y))) ∧ Inv (vs ++ [(x, y)]) w' ∧ Below w0.heap.size w0 w' ∧ Keep B W w'
 later : ∀ vs W W', Inv vs W → Below W.heap.size W W' → Inv vs W'
 enter : ∀ args w, (callFunc F args).run Tryz.prog w = .ok (.enter F args) w
theorem Gv.cells {w : World} {b : Nat} {sv tv lv : Value} (h : Gv w b sv tv lv) : w.cell? ⟨b, 0, none⟩ = some sv ∧ w.cell? ⟨b + 1, 0, none⟩ = some tv ∧ w.cell? ⟨b + 2, 0, none⟩ = some lv ∧ w.cell? ⟨b + 3, 0, none⟩ = some (withinF b) :=
 ⟨cell_of_row _ _ _ _ _ _ h.sig, cell_of_row _ _ _ _ _ _ h.trm, cell_of_row _ _ _ _ _ _ h.look, cell_of_row _ _ _ _ _ _ h.self⟩
theorem pv_pos {sig : List Sy} {u : List Int} {a : Nat} {v : List (Nat × Nat)} (h : Pv sig u a v) : 0 < u.length := by
 cases h
 simp
theorem flat_ge {α : Type} : ∀ (us : List (List α)), (∀ u ∈ us, 0 < u.length) → us.length ≤ us.flatten.length
 | [], _ => Nat.le_refl _
 | u :: us, h => by
  have h1 := flat_ge us (fun x hx => h x (by simp [hx]))
  have h2 := h u (by simp)
  simp only [zG, yT, zF]
  omega
theorem within_any {sig : List Sy} {t : List Int} {w0 : World} {B : Nat} {F : FuncId} {caps : Array Value} {stop : Nat × Nat → Bool} {Inv : List (Nat × Nat) → World → Prop} (HL : Lk sig t w0 B F caps stop Inv) (b sc gt ot tc : Nat) (so : Option Addr) (hBb : B < b)
  (hs : Sg w0 (.slice so sig.length sc) sig) (ht : Is w0 (.slice (some ⟨gt, ot, none⟩) t.length tc) t) (hlen : t.length ≤ 1152921504606846976) {u : List Int} {a : Nat} {vs : List (Nat × Nat)} (h : Pv sig u a vs) :
  ∀ (p q : List Int) (old : List (Nat × Nat)) (W : World), t = p ++ u ++ q → p.length = a → old.length + u.length ≤ t.length → Gv W b (.slice so sig.length sc) (.slice (some ⟨gt, ot, none⟩) t.length tc) (.func (.func F) #[] caps) → Inv old W → Below w0.heap.size w0 W →
  Calls Tryz.prog 127 #[.int .i64 (a : Int), .pointer (some ⟨b, 0, none⟩), .pointer (some ⟨b + 1, 0, none⟩), .pointer (some ⟨b + 3, 0, none⟩), .pointer (some ⟨b + 2, 0, none⟩)] W fun e w' => ∃ n : Nat, e = .returned (.tuple #[.int .i64 (n : Int), .bool (vs.any stop)]) ∧ (vs.any stop = false → n = a + u.length) ∧ Inv (old ++ upto stop vs) w' ∧ Below w0.heap.size w0 w' ∧ Keep B W w' := by
 induction h with
 | mk c us a vss hc hn hv hr h ih =>
  intro p q old W htp hp hol hG hI hB
  have HIh := hid ih
  have HLt : Hid (∀ i, (vss.take i).flatten.length = (us.take i).flatten.length) := lens_take hv (fun i u v h1 h2 => pv_len (h i u v h1 h2))
  have HOl : Hid (old.length + (us.flatten.length + 1) ≤ t.length) := by show _ ≤ _; rw [zG] at hol; exact hol
  clear hol
  have HG := hid hG
  have HI := hid hI
  have HB := hid hB
  have HS := hid hs
  have HTr := hid ht
  have HE := hid (show t = p ++ (c :: us.flatten) ++ q ∧ p.length = a ∧ vss.length = us.length from ⟨htp, hp, hv⟩)
  have HLk := hid HL
  have htl : a + 1 + us.flatten.length ≤ t.length := by rw [htp]; simp [hp]; omega
  have hga : t[a]? = some c := by rw [htp, zR, zM (by omega), hp, Nat.sub_self]; rfl
  have hal : a < t.length := by omega
  have HAr : Hid (∀ w', Below W.heap.size W w' → Calls Tryz.prog 128 #[.slice so sig.length sc, .int .i64 c] w' fun e w2 => e = .returned (.int .i64 (us.length : Int)) ∧ w2 = w') := fun w' hw' => by
   rw [hn]
   exact arity_any _ sig c w' ((hs.kp (zK hB)).kp (zK hw')) hc
  have HVk : Hid (VOk sig t (a, a + 1 + us.flatten.length)) := pv_ok (Pv.mk c us a vss hc hn hv hr h) t p q htp hp _ (by simp)
  obtain ⟨z0, z1, z2, z3⟩ := hG.cells
  obtain ⟨g9, o9, c9, e9, hc9, z4, _, _⟩ := (ht.kp (zK hB)).at hal
  cases e9
  rw [hga] at hc9
  cases hc9
  have hw1 : IntKind.i64.wrap ((a : Int) + 1) = ((a + 1 : Nat) : Int) := by rw [yA _ ⟨by omega, by omega⟩]; omega
  have hfl : us.length ≤ us.flatten.length := flat_ge us fun u hu => by
   obtain ⟨i, hi⟩ := List.getElem?_of_mem hu
   have hil := (zB.1 hi).1
   exact pv_pos (h i u vss[i] hi (zC (by omega)))
  clear hs ht htp hp hga hv hr h ih hG hI hB hn hc HL
  go_enter Tryz.func127, Tryz.ntmps127
  go_wp2_with fail
  refine xBR (by kernel_rfl) (by kernel_rfl) ?_
  go_big_quiet_want
  refine ⟨.slice so sig.length sc, fun w' hw' => ?_, ?_⟩
  ·have hh0 := (zK hw').cell _ _ z0; unfold Oper.quietAt; go_simp
  simp only [Act.put, sA, sB, sC]
  go_big_quiet_on
  go_big_quiet_want
  refine ⟨.slice (some ⟨gt, ot, none⟩) t.length tc, fun w' hw' => ?_, ?_⟩
  ·have hh0 := (zK hw').cell _ _ z1; unfold Oper.quietAt; go_simp
  simp only [Act.put, sA, sB, sC]
  go_big_quiet_on
  (go_big_quiet_want; go_big_quiet_op; go_big_quiet_on)
  go_big_quiet_want
  refine ⟨.pointer (some ⟨gt, ot + a, none⟩), fun w' hw' => ?_, ?_⟩
  ·unfold Oper.quietAt; go_simp
  simp only [Act.put, sA, sB, sC]
  go_big_quiet_on
  go_big_quiet_want
  refine ⟨.int .i64 c, fun w' hw' => ?_, ?_⟩
  ·have hh0 := (zK hw').cell _ _ z4; unfold Oper.quietAt; go_simp
  simp only [Act.put, sA, sB, sC]
  go_big_quiet_on
  go_big_quiet_want
  refine ⟨.int .i64 (us.length : Int), fun w' hw' => ?_, ?_⟩
  ·unfold Oper.quietAt; go_simp; exact (HAr.out w' hw').mono (fun e w2 ⟨he, hb⟩ => ⟨he, by rw [hb]; exact hw'⟩)
  simp only [Act.put, sA, sB, sC]
  go_big_quiet_on
  (go_big_quiet_want; go_big_quiet_op; go_big_quiet_on)
  refine wpQuiet_nil ?_
  intro w1 hb1
  have HB1 := hid hb1
  have HK1 : Hid (Keep B W w1) := Keep.of_below hb1
  have HI1 := hid (HLk.out.later _ _ _ HI.out hb1)
  have HBw1 := hid (zS HB.out hb1)
  clear hb1 z0 z1 z2 z3 z4 HAr
  go_wp2
  go_loopw [8, 19] (fun ev iv wr => ∃ (i E : Nat), i ≤ us.length ∧ iv = .int .i64 i ∧ ev = .int .i64 E ∧ E = a + 1 + (us.take i).flatten.length ∧ (vss.take i).flatten.any stop = false ∧ Inv (old ++ (vss.take i).flatten) wr ∧ Below w0.heap.size w0 wr ∧ Keep B W wr) (fun _ iv _ => us.length - (intOf iv).toNat)
  case atStart => exact ⟨0, a + 1, Nat.zero_le _, rfl, by go_num, by simp, by simp, by simpa using HI1.out, HBw1.out, HK1.out⟩
  case round =>
   obtain ⟨i, E, hi, rfl, rfl, hE, hno, hI, hB, hK⟩ := hrel
   have HEe := hid hE
   have HNo := hid hno
   have HIi := hid hI
   have HBi := hid hB
   have HKi := hid hK
   have HGi := hid (HG.out.keep hK hBb)
   obtain ⟨z0, z1, z2, z3⟩ := HGi.out.cells
   clear hE hno hI hB hK HB1 HK1 HI1 HBw1
   by_cases hlt : i < us.length
   ·have hd : decide ((i : Int) < (us.length : Int)) = true := by simpa using hlt
    obtain ⟨htp, hp, hv⟩ := HE.out
    have hu : us[i]? = some us[i] := zC hlt
    have hvi : vss[i]? = some vss[i] := zC (by omega)
    obtain ⟨ui, hui⟩ : ∃ x, x = us[i] := ⟨_, rfl⟩
    obtain ⟨vi, hvi2⟩ : ∃ x, x = vss[i] := ⟨_, rfl⟩
    rw [← hui] at hu
    rw [← hvi2] at hvi
    have HCall := hid (HIh.out i ui vi hu hvi (p ++ c :: (us.take i).flatten) ((us.drop (i + 1)).flatten ++ q) (old ++ (vss.take i).flatten) wr (by rw [htp, xDI hu]; simp) (by simp [hp]; omega) (by
     have e1 := HLt.out i
     have e2 := HOl.out
     have e3 := congrArg List.length (xDI hu)
     simp only [zF] at e3 ⊢
     omega) HGi.out HIi.out HBi.out)
    rw [← HEe.out] at HCall
    have HT1 : Hid ((us.take (i + 1)).flatten.length = (us.take i).flatten.length + ui.length) := by show _ = _; rw [xAM hu]; simp
    have HT2 : Hid ((vss.take (i + 1)).flatten = (vss.take i).flatten ++ vi) := by show _ = _; rw [xAM hvi]; simp
    have HT3 : Hid (vss.flatten = (vss.take i).flatten ++ vi ++ (vss.drop (i + 1)).flatten) := xDI hvi
    have hil : i ≤ 1152921504606846976 := by omega
    clear htp hp hv hu hvi hui hvi2
    go_wp2_with fail
    refine HCall.out.mono ?_
    rintro e w2 ⟨n, rfl, hn2, hI2, hB2, hK2⟩
    have HI2 := hid hI2
    have HB2 := hid hB2
    have HK2 := hid (HKi.out.trans hK2)
    have HN2 := hid hn2
    clear hn2 hI2 hB2 hK2 HCall z0 z1 z2 z3
    cases hst : vi.any stop with
    | true =>
     have HF : Hid ((vss.flatten ++ [(a, a + 1 + us.flatten.length)]).any stop = true) := by
      show _ = _
      rw [HT3.out, List.any_append, List.any_append, List.any_append, hst]
      simp
     have HU : Hid (old ++ upto stop (vss.flatten ++ [(a, a + 1 + us.flatten.length)]) = old ++ (vss.take i).flatten ++ upto stop vi) := by
      show _ = _
      rw [HT3.out, zR, zR, upto_no _ HNo.out, upto_yes _ hst, zR]
     clear hst
     go_wp2
     go_ret2
     exact ⟨0, (by rw [HF.out]; rfl), (fun h9 => by rw [HF.out] at h9; cases h9), (by rw [HU.out]; exact HI2.out), HB2.out, HK2.out⟩
    | false =>
     have hnE : n = E + ui.length := HN2.out hst
     have HNE := hid hnE
     have HNo2 : Hid ((vss.take (i + 1)).flatten.any stop = false) := by show _ = _; rw [HT2.out, List.any_append, HNo.out, hst]; rfl
     have HI3 : Hid (Inv (old ++ (vss.take (i + 1)).flatten) w2) := by
      have h9 := HI2.out
      rw [upto_all hst] at h9
      show Inv _ _
      rw [HT2.out, ← zR]
      exact h9
     clear hst hnE
     go_wp2
     go_roundw
     case rel => exact ⟨i + 1, n, hlt, by go_num, rfl, by rw [HNE.out, HEe.out, HT1.out]; omega, HNo2.out, HI3.out, HB2.out, HK2.out⟩
     case measure => simp only [intOf]; omega
   have hd : decide ((i : Int) < (us.length : Int)) = false := by simpa using (show ¬ (i : Int) < (us.length : Int) by omega)
   obtain rfl : i = us.length := by omega
   have hEv : E = a + 1 + us.flatten.length := by have h9 := HEe.out; rw [List.take_length] at h9; exact h9
   have HEv := hid hEv
   have HNo2 : Hid (vss.flatten.any stop = false) := by
    have h9 := HNo.out
    rw [← HE.out.2.2, List.take_length] at h9
    exact h9
   have HI2 : Hid (Inv (old ++ vss.flatten) wr) := by
    have h9 := HIi.out
    rw [← HE.out.2.2, List.take_length] at h9
    exact h9
   have haE : a ≤ E := by omega
   have hEt : E ≤ t.length := by omega
   have htc : t.length ≤ tc := by
    obtain ⟨ao, c9, hv9, h19, _⟩ := HTr.out.flatI
    simp only [zZ] at hv9
    omega
   have hbd : Below wr.heap.size wr wr.drew := (Below.refl _ _).drew
   have HCl := hid (HLk.out.call (old ++ vss.flatten) a E (.slice (some ⟨gt, ot + a, none⟩) (E - a) (tc - a)) wr.drew (by rw [HEv.out]; exact HVk.out) (by
    have e1 := HLt.out us.length
    have e2 := HOl.out
    rw [List.take_length, ← HE.out.2.2, List.take_length] at e1
    rw [zF]
    omega) (HLk.out.later _ _ _ HI2.out hbd) (zS HBi.out hbd) (HTr.out.mid hal (by omega)))
   have eg := HLk.out.enter
   have HAn : Hid ((vss.flatten ++ [(a, a + 1 + us.flatten.length)]).any stop = stop (a, E)) := by
    show _ = _
    rw [List.any_append, HNo2.out, ← HEv.out]
    simp
   have htE : E ≤ tc := by omega
   have hta : ¬ tc = a := by omega
   clear HEe hEv hbd
   go_wp2
   go_region_with (first
    | (refine HCl.out.mono ?_; rintro e w9 ⟨rfl, hI9, hB9, hK9⟩; have HI9 := hid hI9; have HB9 := hid hB9; have HK9 := hid (HKi.out.trans ((Keep.of_below (Below.refl _ _).drew).trans hK9)); clear hI9 hB9 hK9))
   all_goals (
    go_wp2
    go_ret2
    refine ⟨E, ?_, fun _ => by rw [HEv.out]; simp; omega, ?_, HB9.out, HK9.out⟩
    ·rw [HAn.out]
     rfl
    rw [upto_no _ HNo2.out, ← HEv.out, ← zR]
    have h9 := HI9.out
    simp only [upto]
    cases stop (a, E) <;> exact h9)
theorem goThrough_any {sig : List Sy} {t : List Int} {w0 : World} {B : Nat} {F : FuncId} {caps : Array Value} {stop : Nat × Nat → Bool} {Inv : List (Nat × Nat) → World → Prop} (HL : Lk sig t w0 B F caps stop Inv) (sv tv : Value) (w : World)
  (hs : Sg w0 sv sig) (ht : Is w0 tv t) (hlen : t.length ≤ 1152921504606846976) {vs : List (Nat × Nat)} (h : Pv sig t 0 vs) (hI : Inv [] w) (hB : Below w0.heap.size w0 w) (hBw : B < w.heap.size) :
  Calls Tryz.prog 73 #[sv, tv, .func (.func F) #[] caps] w fun e w' => e = .returned (.bool (vs.any stop)) ∧ Inv (upto stop vs) w' ∧ Below w0.heap.size w0 w' ∧ Keep B w w' := by
 obtain ⟨so, sc, rfl, hso, hsc, _⟩ := Row.flat hs
 obtain ⟨to2, tc, rfl, hto, htc, _⟩ := ht.flatI
 obtain ⟨gt, ot, _, rfl, _⟩ := ht.at (pv_pos h)
 obtain ⟨V, hV⟩ : ∃ X, X = (((w.alloc (.cells #[.slice so sig.length sc] 22)).alloc (.cells #[.slice (some ⟨gt, ot, none⟩) t.length tc] 30)).alloc (.cells #[.func (.func F) #[] caps] 120)).alloc (.cells #[.nilFunc] 178) := ⟨_, rfl⟩
 have hbV : Below w.heap.size w V := by rw [hV]; exact zS (zS (zS (zA _) (zA _)) (zA _)) (zA _)
 have s1 : (w.alloc (.cells #[.slice so sig.length sc] 22)).heap.size = w.heap.size + 1 := World.size_alloc _ _
 have v3 : V.heap[w.heap.size + 3]? = some (.cells #[.nilFunc] 178) := by
  have h9 := yU (((w.alloc (.cells #[.slice so sig.length sc] 22)).alloc (.cells #[.slice (some ⟨gt, ot, none⟩) t.length tc] 30)).alloc (.cells #[.func (.func F) #[] caps] 120)) (.cells #[.nilFunc] 178)
  rw [World.size_alloc, World.size_alloc, World.size_alloc, ← hV] at h9
  exact h9
 have v2 : V.heap[w.heap.size + 2]? = some (.cells #[.func (.func F) #[] caps] 120) := by
  have h9 := yU ((w.alloc (.cells #[.slice so sig.length sc] 22)).alloc (.cells #[.slice (some ⟨gt, ot, none⟩) t.length tc] 30)) (.cells #[.func (.func F) #[] caps] 120)
  rw [World.size_alloc, World.size_alloc] at h9
  rw [hV]
  exact ((xAA (zA _) none).block _ (by simp only [World.size_alloc]; omega) (by simp)).trans h9
 have v1 : V.heap[w.heap.size + 1]? = some (.cells #[.slice (some ⟨gt, ot, none⟩) t.length tc] 30) := by
  have h9 := yU (w.alloc (.cells #[.slice so sig.length sc] 22)) (.cells #[.slice (some ⟨gt, ot, none⟩) t.length tc] 30)
  rw [World.size_alloc] at h9
  rw [hV]
  exact ((xAA (zA _) none).block _ (by simp only [World.size_alloc]; omega) (by simp)).trans (((xAA (zA _) none).block _ (by simp only [World.size_alloc]; omega) (by simp)).trans h9)
 have v0 : V.heap[w.heap.size]? = some (.cells #[.slice so sig.length sc] 22) := by
  have h9 := yU w (.cells #[.slice so sig.length sc] 22)
  rw [hV]
  exact ((xAA (zA _) none).block _ (by simp only [World.size_alloc]; omega) (by simp)).trans (((xAA (zA _) none).block _ (by simp only [World.size_alloc]; omega) (by simp)).trans (((xAA (zA _) none).block _ (by simp only [World.size_alloc]; omega) (by simp)).trans h9))
 obtain ⟨W, hW⟩ : ∃ X, X = V.setCell ⟨w.heap.size + 3, 0, none⟩ (withinF w.heap.size) := ⟨_, rfl⟩
 have hst : (store ⟨w.heap.size + 3, 0, none⟩ (withinF w.heap.size)).run Tryz.prog V = .ok () W := by
  have e1 := cell_of_row _ _ 0 _ _ _ v3
  have e2 : V.frozen? ⟨w.heap.size + 3, 0, none⟩ = false := frozen_of_row _ _ 0 _ _ v3
  rw [run_store _ _ _ _ _ rfl, hW]
  simp only [List.getElem?_toArray, yQ] at e1
  rw [e1, e2]
  rfl
 have hbW : Below w.heap.size w W := by rw [hW]; exact hbV.setCell (p := ⟨w.heap.size + 3, 0, none⟩) (by simp) _
 have hG : Gv W w.heap.size (.slice so sig.length sc) (.slice (some ⟨gt, ot, none⟩) t.length tc) (.func (.func F) #[] caps) := by
  rw [hW]
  refine ⟨?_, ?_, ?_, heap_setCell_same _ _ _ _ _ _ v3⟩
  ·rw [heap_setCell_other _ _ _ _ (by simp)]; exact v0
  ·rw [heap_setCell_other _ _ _ _ (by simp)]; exact v1
  rw [heap_setCell_other _ _ _ _ (by simp)]; exact v2
 have HW := hid (within_any HL w.heap.size sc gt ot tc so hBw hs ht hlen h [] [] [] W (by simp) rfl (by simp) hG (HL.later _ _ _ hI hbW) (zS hB hbW))
 have HK := hid (Keep.of_below (B := B) hbW)
 have z := hG.cells.2.2.2
 have HSt := hid hst
 have HV := hid hV
 clear hs ht hI hB HL hG h hst hV hW v0 v1 v2 v3 s1 hbV hbW
 go_enter Tryz.func73, Tryz.ntmps73
 go_wp2
 rw [← HV.out]
 rw [show w.heap.size + 1 + 1 + 1 = w.heap.size + 3 by omega, show w.heap.size + 1 + 1 = w.heap.size + 2 by omega]
 rw [HSt.out]
 go_wp2_with fail
 refine HW.out.mono ?_
 rintro e w2 ⟨n, rfl, _, hI2, hB2, hK2⟩
 have HI2 := hid hI2
 have HB2 := hid hB2
 have HK2 := hid (HK.out.trans hK2)
 clear hI2 hB2 hK2 z
 obtain ⟨S, hS⟩ : ∃ S, S = vs.any stop := ⟨_, rfl⟩
 have HSe := hid hS
 rw [← hS]
 clear hS
 go_wp2
 go_ret
 exact ⟨ret1b HSe.out, by simpa using HI2.out, HB2.out, HK2.out⟩
end Go.Proofs.YtdjmjhlbjcgoiaaGreatDoor
