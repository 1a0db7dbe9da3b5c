/- Texts of the proof, one behind the other. -/
import Derived.Test.YtdjmjhlbjcgoiaaGreatDoorOwn18
import Derived.Test.YtdjmjhlbjcgoiaaGreatDoorOwn19
import Derived.Test.YtdjmjhlbjcgoiaaGreatDoorOwn16
import Derived.Test.YtdjmjhlbjcgoiaaGreatDoorOwn5
import Derived.Test.YtdjmjhlbjcgoiaaGreatDoorOwn6
import Derived.Deep.LoopGhost
import Derived.Lib.AppendZeros
import Derived.Test.YtdjmjhlbjcgoiaaGreatDoorOwn11
set_option maxRecDepth 1000000
set_option maxHeartbeats 6400000
namespace Go.Proofs.YtdjmjhlbjcgoiaaGreatDoor
open Go.RowKit Go.Maps
theorem piece_le {f : Int → Option (List Int)} {p : List Int} {c : Int} (h : c ∈ p) : (piece f c).length ≤ (laidL f p).length := by
 obtain ⟨a, b, rfl⟩ := List.append_of_mem h
 rw [laidL_app, xDB, zF, zF]
 omega
theorem metM_len : ∀ (t m : List Int), (metA m t).length ≤ m.length + t.length
 | [], m => by simp [metA]
 | c :: t, m => by
  unfold metA
  split
  ·have := metM_len t m
   simp only [zG]
   omega
  have := metM_len t (m ++ [c])
  simp only [zF, zG, List.length_nil] at this ⊢
  omega
theorem varsM_len (t : List Int) : (varsL t).length ≤ t.length := by
 unfold varsL
 rw [zJ]
 have := metM_len t []
 simpa using this
theorem wf_whole {sig : List Sy} {p : List Int} {P : Tr} (hr : rowE sig p = 0) (hg : growR sig p = [P]) : Wf sig p P 0 ∧ P.size = p.length := by
 refine ⟨⟨p, [], by simp, hr, hg⟩, ?_⟩
 have h := xAW sig p
 rw [hg] at h
 simpa [sizes] using h
theorem row_ne {sig : List Sy} {p : List Int} (hr : rowE sig p = 0) : 0 < p.length := by
 cases p with
 | nil => simp [rowE, firstT] at hr
 | cons c p => simp
def bindsL (f : Int → Option (List Int)) (p : List Int) : List Bd := (sortI (varsL p)).map fun n => (n, (f n).getD [])
theorem rs_two {w : World} {pv tv : Value} {p t : List Int} (hp : Is w pv p) (ht : Is w tv t) (h1 : p.length * 8 ≤ 140737488351232) (h2 : t.length * 8 ≤ 140737488351232) : Rs (w.alloc (.cells #[pv, tv] 30)) (.slice (some ⟨w.heap.size, 0, none⟩) 2 2) [p, t] := by
 have hk := zK (zA (w := w) (.cells #[pv, tv] 30))
 refine ⟨_, 2, rfl, Nat.le_refl _, by simp [maxLen], fun _ => ⟨w.heap.size, 0, rfl, by simp, fun k x hx => ?_⟩⟩
 match k, hx with
 | 0, hx =>
  simp at hx
  subst hx
  exact ⟨h1, pv, xAB rfl, hp.kp hk⟩
 | 1, hx =>
  simp at hx
  subst hx
  exact ⟨h2, tv, xAB rfl, ht.kp hk⟩
 | k + 2, hx => simp at hx
theorem found {sig : List Sy} {p t : List Int} {w : World} {L : List (Int × Value)} {R : List (Int × List Int)} (hlr : Lr w L R) (hky : Ky sig p R) (hs : Sm (fun n => R.lookup n) p t) (ht : t.length * 8 ≤ 140737488351232) : ∀ x ∈ varsL p, ∃ v u, L.lookup x = some v ∧ R.lookup x = some u ∧ Is w v u ∧ 0 < u.length ∧ u.length * 8 ≤ 140737488351232 := fun x hx => by
 obtain ⟨c, hc, h0, rfl⟩ := xCR.1 hx
 have hne := hs.1 c hc h0
 cases hl : L.lookup (-1 - c) with
 | none => exact absurd ((hlr _).2 hl) hne
 | some v =>
  obtain ⟨u, hu, hi⟩ := (hlr _).1 v hl
  refine ⟨v, u, rfl, hu, hi, row_ne (hky _ _ hu).1, ?_⟩
  have h9 := piece_le (f := fun n => R.lookup n) hc
  rw [hs.2] at h9
  have e9 : piece (fun n => R.lookup n) c = u := by unfold piece; rw [if_pos h0]; show (R.lookup (-1 - c)).getD [c] = u; rw [hu]; rfl
  rw [e9] at h9
  omega
theorem match_any (sv pv tv : Value) (sig : List Sy) (p t : List Int) (w : World) (hs : Sg w sv sig) (hp : Is w pv p) (ht : Is w tv t) (hT : Tabs w) (hl1 : p.length * 32 ≤ 140737488351232) (hl2 : t.length * 16 ≤ 140737488351232) :
  Calls Tryz.prog 79 #[sv, pv, tv] w fun e w' => Below w.heap.size w w' ∧ ((e = .returned (.tuple #[.slice none 0 0, .bool false]) ∧ (termE sig p ≠ 0 ∨ termE sig t ≠ 0 ∨ ∀ f, Rt sig f → ¬ Sm f p t)) ∨
   ∃ v f, e = .returned (.tuple #[v, .bool true]) ∧ termE sig p = 0 ∧ termE sig t = 0 ∧ Rt sig f ∧ Sm f p t ∧ OBW w.heap.size w' v (bindsL f p)) := by
 obtain ⟨ap, cp, hpv, _⟩ := hp.flatI
 subst hpv
 obtain ⟨at', ct, htv, _⟩ := ht.flatI
 subst htv
 have HS := hid hs
 have HP := hid hp
 have HT := hid ht
 have HTa := hid hT
 clear hs hp ht hT
 go_enter Tryz.func79, Tryz.ntmps79
 go_wp2_with fail
 refine (areTerms_any sv _ sig [p, t] _ (HS.out.kp (zK (zA _))) (rs_two HP.out HT.out (by omega) (by omega)) (HTa.out.below (zA _))).mono ?_
 rintro e w1 ⟨rfl, hb1⟩
 have hB1 := zS (zA _) hb1
 have HB1 := hid hB1
 clear hb1
 by_cases hc : termE sig p = 0 ∧ termE sig t = 0
 ·obtain ⟨hcp, hct⟩ := hc
  have htb : termsB sig [p, t] = true := by simp [termsB, hcp, hct]
  rw [htb]
  have hse : sigE sig = 0 := by
   unfold termE at hcp
   by_cases h : sigE sig = 0
   ·exact h
   rw [if_neg h] at hcp; exact hcp
  have hrp : rowE sig p = 0 := by unfold termE at hcp; rw [if_pos hse] at hcp; exact hcp
  have hrt : rowE sig t = 0 := by unfold termE at hct; rw [if_pos hse] at hct; exact hct
  have hao := sigE_ok hse
  have HCp := hid hcp
  have HCt := hid hct
  have HAo := hid hao
  have HRp := hid hrp
  have HRt := hid hrt
  obtain ⟨b1, o1, _, e1, _⟩ := HP.out.at (row_ne hrp)
  obtain ⟨b2, o2, _, e2, _⟩ := HT.out.at (row_ne hrt)
  subst e1
  subst e2
  clear htb hcp hct hse hrp hrt hao hB1
  go_wp2_with fail
  refine (growM_any sv b1 o1 cp sig p w1 (HS.out.kp (zK HB1.out)) (HP.out.kp (zK HB1.out)) HAo.out HRp.out (by omega)).mono ?_
  rintro e w2 ⟨v1, P, A1, rfl, hg1, ht1, hA1, hb2⟩
  have HB2 := hid (zS HB1.out hb2)
  have HG1 := hid hg1
  have HT1 := hid ht1
  have HA1 := hid hA1
  clear hg1 ht1 hA1 hb2
  go_wp2_with fail
  refine (growM_any sv b2 o2 ct sig t w2 (HS.out.kp (zK HB2.out)) (HT.out.kp (zK HB2.out)) HAo.out HRt.out (by omega)).mono ?_
  rintro e w3 ⟨v2, T, A2, rfl, hg2, ht2, hA2, hb3⟩
  have HB3 := hid (zS HB2.out hb3)
  have HG2 := hid hg2
  have HT2 := hid ht2
  have HA2 := hid hA2
  have HT1' : Hid (TP w3 (fun b => A1 b ∨ A2 b) (cdS b1 o1 cp) v1 P 0) := HT1.out.keep (fun b o x _ h => (zK hb3).cell _ _ h) (fun b h => .inl h)
  have HT2' : Hid (TP w3 (fun b => A1 b ∨ A2 b) (cdS b2 o2 ct) v2 T 0) := HT2.out.keep (fun b o x _ h => h) (fun b h => .inr h)
  have HAA : Hid (∀ b, (A1 b ∨ A2 b) → b < w3.heap.size) := fun b h => by
   rcases h with h | h
   ·exact Nat.lt_of_lt_of_le (HA1.out b h).2 hb3.size
   exact (HA2.out b h).2
  clear hg2 ht2 hA2 hb3 HT1 HT2
  go_wp2_with fail
  refine (boundRows_any sig HAo.out b1 o1 cp b2 o2 ct p t (fun b => A1 b ∨ A2 b) v1 v2 P T w3 (HP.out.kp (zK HB3.out)) (HT.out.kp (zK HB3.out)) HT1'.out HT2'.out HAA.out (wf_whole HRp.out HG1.out).1 (wf_whole HRt.out HG2.out).1 (wf_whole HRp.out HG1.out).2 (wf_whole HRt.out HG2.out).2 (by omega)).mono ?_
  rintro e w4 ⟨hb4, ⟨rfl, hno⟩ | ⟨L, R, rfl, hm, hlr, hky, hsm⟩⟩
  ·have HB4 := hid (zS HB3.out hb4)
   have HNo := hid hno
   clear hb4 hno
   go_wp2
   go_ret2
   exact ⟨HB4.out, .inl ⟨rfl, .inr (.inr HNo.out)⟩⟩
  have HB4 := hid (zS HB3.out hb4)
  have HM := hid hm
  have HKy := hid hky
  have HSm := hid hsm
  have HFo : Hid (∀ x ∈ varsL p, ∃ v u, L.lookup x = some v ∧ R.lookup x = some u ∧ Is w4 v u ∧ 0 < u.length ∧ u.length * 8 ≤ 140737488351232) := fun x hx => by
   obtain ⟨v, u, k1, k2, k3, k4, k5⟩ := found hlr hky hsm (by omega) x hx
   exact ⟨v, u, k1, k2, k3.kp (zK hb4), k4, k5⟩
  have hbm := hm.lt
  clear hb4 hm hlr hky hsm
  go_wp2_with fail
  refine (vars_any _ p w4 (HP.out.kp (zK HB4.out)) (by omega)).mono ?_
  rintro e w5 ⟨v5, rfl, ho5, hb5⟩
  have HO5 := hid ho5
  have HB5 := hid hb5
  clear ho5 hb5
  go_wp2_with fail
  refine (risingBinds_any (fun n => R.lookup n) w3.heap.size L v5 (varsL p) w4 w5 HB5.out HO5.out (HM.out.later HB5.out) hbm HFo.out (by have := varsM_len p; omega)).mono ?_
  rintro e w6 ⟨v6, rfl, ho6, hb6⟩
  have HO6 := hid ho6
  have HB6 := hid (zS HB4.out hb6)
  clear ho6 hb6
  go_wp2
  go_ret2
  exact ⟨HB6.out, .inr ⟨_, fun n => R.lookup n, rfl, HCp.out, HCt.out, fun n u hu => (HKy.out n u hu).1, HSm.out, HO6.out.mono HB4.out.size⟩⟩
 have htb : termsB sig [p, t] = false := by
  unfold termsB
  rw [List.all_eq_false]
  by_cases h : termE sig p = 0
  ·exact ⟨t, by simp, by simp; exact fun h2 => hc ⟨h, h2⟩⟩
  exact ⟨p, by simp, by simpa using h⟩
 have HC : Hid (termE sig p ≠ 0 ∨ termE sig t ≠ 0 ∨ ∀ f, Rt sig f → ¬ Sm f p t) := by
  by_cases h : termE sig p = 0
  ·exact .inr (.inl fun h2 => hc ⟨h, h2⟩)
  exact .inl h
 rw [htb]
 clear htb hc hB1
 go_wp2
 go_ret2
 exact ⟨HB1.out, .inl ⟨rfl, HC.out⟩⟩
theorem xGG {sig : List Sy} {f g : Int → Option (List Int)} (hf : Rt sig f) (hg : Rt sig g) : ∀ p : List Int, (∀ c ∈ p, c < 0 → f (-1 - c) ≠ none) → (∀ c ∈ p, c < 0 → g (-1 - c) ≠ none) → laidL f p = laidL g p → ∀ c ∈ p, c < 0 → f (-1 - c) = g (-1 - c)
 | [], _, _, _, c, hc, _ => by simp at hc
 | d :: p, h1, h2, h, c, hc, h0 => by
  rw [xDB, xDB] at h
  by_cases hd : d < 0
  ·obtain ⟨u, hu⟩ := Option.ne_none_iff_exists'.1 (h1 d (by simp) hd)
   obtain ⟨v, hv⟩ := Option.ne_none_iff_exists'.1 (h2 d (by simp) hd)
   have e1 : piece f d = u := by unfold piece; rw [if_pos hd, hu]; rfl
   have e2 : piece g d = v := by unfold piece; rw [if_pos hd, hv]; rfl
   rw [e1, e2] at h
   have k1 := xCL (hf _ _ hu) (laidL f p)
   rw [h, xCL (hg _ _ hv)] at k1
   have k2 : u.length = v.length := by
    have := congrArg Prod.fst k1
    simp only at this
    omega
   obtain ⟨k3, k4⟩ := List.append_inj h k2
   rcases yB.1 hc with rfl | hc
   ·rw [hu, hv, k3]
   exact xGG hf hg p (fun x hx => h1 x (by simp [hx])) (fun x hx => h2 x (by simp [hx])) k4 c hc h0
  have e1 : piece f d = [d] := by unfold piece; rw [if_neg hd]
  have e2 : piece g d = [d] := by unfold piece; rw [if_neg hd]
  rw [e1, e2] at h
  have k4 : laidL f p = laidL g p := by simpa using h
  rcases yB.1 hc with rfl | hc
  ·exact absurd h0 hd
  exact xGG hf hg p (fun x hx => h1 x (by simp [hx])) (fun x hx => h2 x (by simp [hx])) k4 c hc h0
theorem sm_unique {sig : List Sy} {f g : Int → Option (List Int)} {p t : List Int} (hf : Rt sig f) (hg : Rt sig g) (h1 : Sm f p t) (h2 : Sm g p t) : ∀ c ∈ p, c < 0 → f (-1 - c) = g (-1 - c) := xGG hf hg p h1.1 h2.1 (by rw [h1.2, h2.2])
theorem binds_unique {sig : List Sy} {f g : Int → Option (List Int)} {p t : List Int} (hf : Rt sig f) (hg : Rt sig g) (h1 : Sm f p t) (h2 : Sm g p t) : bindsL f p = bindsL g p := by
 unfold bindsL
 refine List.map_congr_left fun n hn => ?_
 obtain ⟨c, hc, h0, rfl⟩ := xCR.1 ((xDC _ _).1 hn)
 rw [sm_unique hf hg h1 h2 c hc h0]
theorem xFA {sig : List Sy} : ∀ (t : List Int) (m : Int) (i : Nat), firstT sig m i t = ((i : Int) + t.length, 0) → ∀ c ∈ t, codeD sig c ≠ none
 | [], _, _, _, c, hc => by simp at hc
 | a :: t, m, i, h, c, hc => by
  unfold firstT at h
  cases ha : codeD sig a with
  | none => rw [ha] at h; simp at h
  | some x =>
   rw [ha] at h
   simp only at h
   by_cases h0 : m + x = 0
   ·rw [if_pos h0] at h
    have h2 := congrArg Prod.fst h
    simp only [zG] at h2
    have h3 : t.length = 0 := by omega
    obtain rfl := zE h3
    rw [yR] at hc
    subst hc
    rw [ha]
    simp
   rw [if_neg h0] at h
   rcases yB.1 hc with rfl | hc
   ·rw [ha]; simp
   refine xFA t (m + x) (i + 1) ?_ c hc
   rw [h]
   simp only [zG]
   congr 1
   push_cast
   omega
theorem codes_of {sig : List Sy} {p : List Int} (h : rowE sig p = 0) {c : Int} (hc : c ∈ p) : -1048576 ≤ c := by
 have h1 := xAI.1 h
 have h2 := xFA p 1 0 (by rw [h1]; simp) c hc
 by_cases h3 : c < -1048576
 ·exact absurd (xEC (.inr h3)) h2
 omega
theorem laid_congr {f g : Int → Option (List Int)} {p : List Int} (h : ∀ c ∈ p, piece f c = piece g c) : laidL f p = laidL g p := by
 unfold laidL
 rw [List.flatMap_def, List.flatMap_def, List.map_congr_left h]
theorem binds_look {g : Int → Option (List Int)} {n : Int} : ∀ {l : List Int}, n ∈ l → (l.map fun n => (n, (g n).getD [])).lookup n = some ((g n).getD [])
 | [], h => by simp at h
 | m :: l, h => by
  rw [yW, List.lookup_cons]
  by_cases e : n = m
  ·subst e
   simp
  rw [show (n == m) = false by rw [zY]; exact e]
  exact binds_look ((yB.1 h).resolve_left e)
theorem binds_rise (g : Int → Option (List Int)) (p : List Int) : (bindsL g p).Pairwise (fun a b => a.1 < b.1) := by
 unfold bindsL
 rw [List.pairwise_map]
 exact sortI_rise (vars_once p)
theorem back_found {sig : List Sy} {g : Int → Option (List Int)} {p t : List Int} (hp : termE sig p = 0) (hg : Rt sig g) (hs : Sm g p t) : bindE sig (bindsL g p) = 0 ∧ laidL (bnd (bindsL g p)) p = t := by
 obtain ⟨hse, hrp⟩ := xAE hp
 have hmem : ∀ n ∈ sortI (varsL p), 0 ≤ n ∧ n < 1048576 ∧ ∃ u, g n = some u := fun n hn => by
  rw [xDC, xCR] at hn
  obtain ⟨c, hc, h0, rfl⟩ := hn
  have := codes_of hrp hc
  exact ⟨by omega, by omega, Option.ne_none_iff_exists'.1 (hs.1 c hc h0)⟩
 constructor
 ·unfold bindE
  rw [if_pos hse]
  refine bind_made sig _ none (fun b hb => ?_) (fun y hy => by cases hy) (binds_rise g p)
  unfold bindsL at hb
  obtain ⟨n, hn, rfl⟩ := yL.1 hb
  obtain ⟨h1, h2, u, hu⟩ := hmem n hn
  refine ⟨isVarB_iff.2 ⟨h1, h2⟩, ?_⟩
  unfold termE
  rw [if_pos hse, hu]
  exact hg n u hu
 rw [← hs.2]
 refine laid_congr fun c hc => ?_
 unfold piece
 by_cases h0 : c < 0
 ·rw [if_pos h0, if_pos h0]
  obtain ⟨u, hu⟩ := Option.ne_none_iff_exists'.1 (hs.1 c hc h0)
  have h1 : bnd (bindsL g p) (-1 - c) = some u := by
   unfold bnd
   rw [← look_rise (binds_rise g p)]
   unfold bindsL
   rw [binds_look (by rw [xDC, xCR]; exact ⟨c, hc, h0, rfl⟩), hu]
   rfl
  rw [h1, hu]
 rw [if_neg h0, if_neg h0]
end Go.Proofs.YtdjmjhlbjcgoiaaGreatDoor
namespace Go.Proofs.YtdjmjhlbjcgoiaaGreatDoor
open Go.RowKit Go.Maps Go.BigFrame
theorem xGN {P : Program} {w w' : World} {ops : Array Oper} {rest : List Oper} {o : Oper} {a : Act} {v' : Value} {Q : Exit → Act → World → Prop} (hgd : o.guard = none) (s x : Operand) (t t2 : TypeId)
  (ho : o.op = .call { callee := .builtin .append, args := #[s, x], argTypes := #[t, t2] }) (v u : Value) (hs : a.eval s = v) (hx : a.eval x = u)
  (hr : (Builtin.append_ #[t, t2] o.type #[v, u]).run P w = .ok v' w') (h : wpList P ops Q rest (a.put o.dst v') w') : wpList P ops Q (o :: rest) a w := by
 refine wpList_plain hgd fun K hK => ?_
 unfold Oper.wp execOp
 simp only [ho, resolve, invoke, builtin, Sem.run_bind, Sem.run_pure, Result.andThen_ok, List.map_toArray, yW, List.map_nil, hs, hx, hr]
 exact hK _ _ h
theorem zeroI_cells (n : Nat) : (Builtin.zeroCells (Value.int .i64 0).cells n).size = n := by
 simp [Builtin.zeroCells, Value.cells]
theorem growS_any (n : Nat) (w : World) (h : n * 8 ≤ 140737488355328) :
  Calls Tryz.prog 153 #[.slice none 0 0, .int .i64 n] w fun e w' => ∃ v', e = .returned v' ∧ OwI w' w.heap.size v' [] ∧ Below w.heap.size w w' := by
 obtain ⟨i0, hi, hz0, hz1, hz2⟩ := info_parts info_int
 by_cases h0 : n = 0
 ·subst h0
  go_enter Tryz.func153, Tryz.ntmps153
  go_wp2
  go_ret
  exact ⟨_, rfl, nilI _ _, Below.refl _ _⟩
 have hn1 : ¬ (n : Int) < 0 := by omega
 have hn2 : (0 : Int) < (n : Int) := by omega
 have hr := Lib.run_append_nil_zeros (P := Tryz.prog) w 30 3 30 3 i0 (.int .i64 0) .i64 .i64 xBQ (by kernel_rfl) hi hz0 n (by omega) (by rw [hz1]; decide) (by omega) (by rw [hz2]; omega)
 obtain ⟨C, hC⟩ : ∃ C, C = grownCap w n 0 3 := ⟨_, rfl⟩
 rw [← hC] at hr
 have HR := hid hr
 have HC : Hid (n ≤ C ∧ C ≤ maxLen) := by
  rw [hC]
  exact ⟨grownCap_ge _ _ _ _, grownCap_le_maxLen _ _ _ _ (by unfold maxLen; omega)⟩
 clear hr hC
 go_enter Tryz.func153, Tryz.ntmps153
 go_wp2_with (first
  | (at_builtin; refine xGN rfl _ _ _ _ rfl _ _ rfl rfl HR.out ?_))
 go_ret
 refine ⟨_, rfl, ⟨fun k x hk => (by simp at hk), rfl, .inr ⟨w.heap.size, C, _, rfl, Nat.le_refl _, yU _ _, Nat.zero_le _, HC.out.2, ?_, rfl⟩⟩, zS (zA _) (xAF _)⟩
 have h1 := zeroI_cells n
 have h2 := zeroI_cells (C - n)
 simp only [Value.cells] at h1 h2
 have := HC.out.1
 rw [Array.size_append, h1, h2]
 omega
theorem sumT_take {l : List (List Int)} {k : Nat} {r : List Int} (h : l[k]? = some r) : ((l.take (k + 1)).map List.length).sum = ((l.take k).map List.length).sum + r.length := by
 rw [xAM h, yI, List.sum_append]
 simp
theorem sumT_le (l : List (List Int)) (k : Nat) : ((l.take k).map List.length).sum ≤ (l.map List.length).sum := by
 have : (l.map List.length).sum = ((l.take k).map List.length).sum + ((l.drop k).map List.length).sum := by
  rw [← List.sum_append, ← yI, zQ]
 omega
theorem flat_len (l : List (List Int)) : l.flatten.length = (l.map List.length).sum := List.length_flatten
theorem concat_any (v : Value) (l : List (List Int)) (w : World) (h : Rs w v l) (hl : (l.map List.length).sum * 8 ≤ 140737488355328) :
  Calls Tryz.prog 102 #[v] w fun e w' => ∃ v', e = .returned v' ∧ OwI w' w.heap.size v' l.flatten ∧ Below w.heap.size w w' := by
 obtain ⟨ao, cap, rfl, hao, hca, q0⟩ := Row.flat h
 unfold maxLen at hca
 have HR := hid h
 clear h q0
 go_enter Tryz.func102, Tryz.ntmps102
 go_wp2
 go_loopw [3, 11] (fun x i wr => ∃ k : Nat, k ≤ l.length ∧ i = .int .i64 k ∧ x = .int .i64 ((((l.take k).map List.length).sum : Nat) : Int) ∧ wr = w) (fun _ i _ => l.length - (intOf i).toNat)
 case atStart => exact ⟨0, Nat.zero_le _, rfl, rfl, rfl⟩
 case round =>
  obtain ⟨k, hk, rfl, rfl, hw⟩ := hrel
  have hw8 := hw.symm
  subst hw8
  clear hw
  have hsl := sumT_le l k
  have hsl1 := sumT_le l (k + 1)
  by_cases hlt : k < l.length
  ·obtain ⟨g, off, a, r, c, rfl, hm, hc0, hir, hrl⟩ := HR.out.at hlt
   have hst := sumT_take hm
   have HSt := hid hst
   obtain ⟨S, hS⟩ : ∃ S, S = ((l.take k).map List.length).sum := ⟨_, rfl⟩
   rw [← hS] at hsl hst HSt ⊢
   have hw1 : IntKind.i64.wrap ((S : Int) + (r.length : Int)) = ((S + r.length : Nat) : Int) := by rw [yA _ ⟨by omega, by omega⟩]; omega
   have hn0 : ¬ ((S + r.length : Nat) : Int) < 0 := by omega
   clear hm hir hS
   go_wp2
   go_roundw
   case rel => exact ⟨k + 1, by omega, by go_num, by rw [HSt.out]; exact congrArg (Value.int .i64) (by omega), trivial⟩
   case measure => simp [intOf]; omega
  have hke : k = l.length := by omega
  subst hke
  rw [List.take_length]
  have HG := hid (growS_any (l.map List.length).sum w hl)
  go_wp2_with fail
  refine HG.out.mono ?_
  rintro e w1 ⟨v1, rfl, ho1, hb1⟩
  have HO1 := hid ho1
  have HB1 := hid hb1
  clear ho1 hb1 HG hsl hsl1 hlt hk
  go_wp2
  go_loopw [6, 27] (fun x i wr => ∃ k : Nat, k ≤ l.length ∧ i = .int .i64 k ∧ OwI wr w.heap.size x (l.take k).flatten ∧ Below w.heap.size w wr) (fun _ i _ => l.length - (intOf i).toNat)
  case atStart => exact ⟨0, Nat.zero_le _, rfl, HO1.out, HB1.out⟩
  case round =>
   obtain ⟨k, hk, rfl, how, hbl⟩ := hrel
   have HO := hid how
   have HB := hid hbl
   have hsl := sumT_le l k
   have hsl1 := sumT_le l (k + 1)
   clear how
   by_cases hlt : k < l.length
   ·obtain ⟨g, off, a, r, c, rfl, hm, hc0, hir, hrl⟩ := (HR.out.kp (zK hbl)).at hlt
    have hst := sumT_take hm
    have HFl : Hid ((l.take (k + 1)).flatten = (l.take k).flatten ++ r) := by
     show _ = _
     rw [xAM hm, List.flatten_append]
     simp
    obtain ⟨v4, w4, hr4, ho4, hg4⟩ := xEZ 30 HO.out hir HB.out.size (by rw [flat_len]; omega)
    have HR4 := hid hr4
    have HO4 := hid ho4
    have HB4 : Hid (Below w.heap.size w w4) := HB.out.grown hg4 HB.out.size (fun j hj => own_blk HO.out.2 hj)
    clear hm hir hr4 ho4 hg4 hst hbl
    go_wp2_with (first
     | (at_builtin; refine xAL rfl _ _ _ rfl _ _ rfl rfl HR4.out ?_))
    go_roundw
    case rel => exact ⟨k + 1, by omega, by go_num, by rw [HFl.out]; exact HO4.out, HB4.out⟩
    case measure => simp [intOf]; omega
   have hke : k = l.length := by omega
   subst hke
   rw [List.take_length] at HO
   go_wp2
   go_ret
   exact ⟨_, rfl, HO.out, HB.out⟩
theorem xCG {t : List Int} {c : Int} (hc : c ∈ t) (h0 : c < 0) : -1 - c ∈ varsL t := by
 unfold varsL
 exact yL.2 ⟨c, (metA_mem t [] c).2 (.inr ⟨hc, h0⟩), rfl⟩
theorem vars_of12 {t : List Int} {v : Int} (h : v ∈ varsL t) : ∃ c ∈ t, c < 0 ∧ v = -1 - c := by
 unfold varsL at h
 obtain ⟨c, hc, rfl⟩ := yL.1 h
 rcases (metA_mem t [] c).1 hc with h | ⟨h1, h2⟩
 ·cases h
 exact ⟨c, h1, h2, rfl⟩
theorem xEQ (t : List Int) : (varsL t).Nodup := by
 unfold varsL
 have h := met_once t [] List.nodup_nil
 rw [List.nodup_iff_pairwise_ne] at h ⊢
 rw [List.pairwise_map]
 exact h.imp (fun {a b} hne e => hne (by omega))
theorem vars_ok12 {sig : List Sy} {t : List Int} (h : rowE sig t = 0) : ∀ v ∈ varsL t, 0 ≤ v ∧ v ≤ 1048576 := fun v hv => by
 obtain ⟨c, hc, h0, rfl⟩ := vars_of12 hv
 have := codes_of h hc
 omega
theorem Ins.lim {w : World} {v : Value} {l : List Ip} (h : Ins w v l) : ∀ x ∈ l, ∀ m ∈ x.2, Lim m.1 := by
 intro x hx
 obtain ⟨k, hk⟩ := zW.1 hx
 obtain ⟨ao, cap, rfl, _, _, hf⟩ := Row.flat h
 obtain ⟨g, off, y, _, hk2, hy⟩ := hf k (zB.1 hk).1
 rw [hk] at hk2
 cases hk2
 obtain ⟨_, _, _, pv, _, hms⟩ := hy
 exact hms.limA
theorem xBX {sig : List Sy} {t : List Int} (h : termE sig t = 0) : sigE sig = 0 ∧ rowE sig t = 0 := xAE h
theorem interpOf_any (sv lv tv : Value) (sig : List Sy) (l : List Ip) (t : List Int) (w : World) (hs : Sg w sv sig) (hl : Ins w lv l) (ht : Is w tv t) (hT : Tabs w) (hb : t.length * 24 ≤ 140737488351232) :
  Calls Tryz.prog 16 #[sv, lv, tv] w fun e w' => (∃ v', e = .returned (.tuple #[v', .int .i64 (ofPE sig l t)]) ∧ OM w' w.heap.size v' (ofPL sig l t)) ∧ Below w.heap.size w w' := by
 have HCk := hid (xCK sv lv sig l w hs hl hT)
 obtain ⟨so, sc, rfl, hso, hsc, _⟩ := Row.flat hs
 obtain ⟨lo, lc, rfl, hlo, hlc, _⟩ := Row.flat hl
 obtain ⟨ta, tc, rfl, hto, htc, _⟩ := Row.flat ht
 unfold maxLen at hsc hlc htc
 have HS := hid hs
 have HL := hid hl
 have HI := hid ht
 have HT := hid hT
 have HLim := hid hl.lim
 clear hs hl ht hT
 go_enter Tryz.func16, Tryz.ntmps16
 go_wp2_with fail
 refine HCk.out.mono ?_
 rintro e w1 ⟨rfl, hb1⟩
 have B1 := hid hb1
 clear hb1 HCk
 by_cases hE : inE sig l = 0
 ·have HIn := hid hE
  have HR : Hid (ofPE sig l t = if termE sig t = 0 then ovE (ofV sig l (varsL t) t) else termE sig t) := by show _ = _; unfold ofPE; rw [if_pos hE]
  have HRL : Hid (ofPL sig l t = if termE sig t = 0 then ovL (ofV sig l (varsL t) t) else []) := by
   show _ = _
   unfold ofPL
   by_cases h : termE sig t = 0
   ·rw [if_pos ⟨hE, h⟩, if_pos h]
   rw [if_neg (fun h9 => h h9.2), if_neg h]
  rw [hE]
  clear hE
  go_wp2_with fail
  refine (xBP _ _ sig t w1 (HS.out.kp (zK B1.out)) (HI.out.kp (zK B1.out)) (HT.out.below B1.out) (by omega)).mono ?_
  rintro e w2 ⟨rfl, hb2⟩
  have B2 := hid (zS B1.out hb2)
  clear hb2 B1
  by_cases hE2 : termE sig t = 0
  ·have HTe := hid hE2
   have HR2 : Hid (ofPE sig l t = ovE (ofV sig l (varsL t) t)) := by show _ = _; rw [HR.out, if_pos hE2]
   have HR3 : Hid (ofPL sig l t = ovL (ofV sig l (varsL t) t)) := by show _ = _; rw [HRL.out, if_pos hE2]
   rw [hE2]
   clear hE2 HR HRL
   go_wp2_with fail
   refine (vars_any _ t w2 (HI.out.kp (zK B2.out)) (by omega)).mono ?_
   rintro e w3 ⟨vv, rfl, hov, hb3⟩
   have B3 := hid (zS B2.out hb3)
   have HV := hid hov.is
   obtain ⟨va, vc, rfl, hva, hvc⟩ := hov.shape
   clear hov hb3 B2
   by_cases hbig : 512 < (varsL t).length
   ·have HNo : Hid (ofV sig l (varsL t) t = none) := by show _ = _; unfold ofV; rw [if_pos hbig]
    go_wp2_with fail
    refine (xFS _ _ _ (varsL t) w3 HV.out hbig).mono ?_
    rintro e w4 ⟨rfl, hb4⟩
    have B4 := hid (zS B3.out hb4)
    clear hb4 B3 hbig
    go_wp2
    go_ret2
    rw [HR2.out, HR3.out, HNo.out]
    exact ⟨⟨_, rfl, OM.nil _ _⟩, zS B4.out (zA _)⟩
   have hsm : (varsL t).length ≤ 512 := by omega
   go_wp2_with fail
   refine (xFT _ _ _ sig l (varsL t) w3 (HS.out.kp (zK B3.out)) (HL.out.kp (zK B3.out)) HV.out HIn.out (xEQ t) (vars_ok12 (xBX HTe.out).2) hsm (sigE_len (xBX HTe.out).1)).mono ?_
   rintro e w4 ⟨gS, b, rfl, hM, hb4⟩
   have B4 := hid (zS B3.out hb4)
   have hb3 := B3.out.size
   have hb34 := hb4.size
   have HM := hid hM
   clear hb4 hM hbig
   have hB5 := zA (w := w4) (.cells #[.slice so sig.length sc, .slice (some ⟨gS, 0, none⟩) sig.length sig.length, .map (some b)] 85)
   obtain ⟨W5, hW5⟩ : ∃ X, X = w4.alloc (.cells #[.slice so sig.length sc, .slice (some ⟨gS, 0, none⟩) sig.length sig.length, .map (some b)] 85) := ⟨_, rfl⟩
   have y0 : W5.cell? ⟨w4.heap.size, 0, none⟩ = some (.slice so sig.length sc) := by rw [hW5, cell_of_row _ _ _ _ _ _ (yU _ _)]; rfl
   have y1 : W5.cell? ⟨w4.heap.size, 1, none⟩ = some (.slice (some ⟨gS, 0, none⟩) sig.length sig.length) := by rw [hW5, cell_of_row _ _ _ _ _ _ (yU _ _)]; rfl
   have y2 : W5.cell? ⟨w4.heap.size, 2, none⟩ = some (.map (some b)) := by rw [hW5, cell_of_row _ _ _ _ _ _ (yU _ _)]; rfl
   rw [← hW5] at hB5
   have B5 := hid (zS B4.out hB5)
   have HM5 := hid (HM.out.later hB5)
   have hsz : w3.heap.size ≤ W5.heap.size := Nat.le_trans hb34 hB5.size
   go_upto_region 8 with fail
   rw [← hW5]
   clear hW5 hB5 HM
   go_wp2_with fail
   refine (xEI _ _ sig l (varsL t) t w3.heap.size gS b W5 (HS.out.kp (zK B5.out)) (HI.out.kp (zK B5.out)) HM5.out hsz HIn.out HLim.out (xBX HTe.out).2 (fun c hc h0 => xCG hc h0) (xEQ t) hsm (by omega)).mono ?_
   rintro e w6 ⟨⟨v6, rfl, ho6⟩, hb6⟩
   have B6 := hid (zS B5.out hb6)
   have HO6 := hid (ho6.mono hb3)
   clear ho6 hb6 y0 y1 y2 HM5
   go_wp2
   go_ret2
   rw [HR2.out, HR3.out]
   exact ⟨⟨_, rfl, HO6.out⟩, B6.out⟩
  have HR2 : Hid (ofPE sig l t = termE sig t) := by show _ = _; rw [HR.out, if_neg hE2]
  have HR3 : Hid (ofPL sig l t = []) := by show _ = _; rw [HRL.out, if_neg hE2]
  have hne : (termE sig t != 0) = true := by rw [bne_iff_ne]; exact hE2
  clear hE2 HR HRL
  generalize termE sig t = z at hne HR2 ⊢
  go_wp2
  go_ret2
  rw [HR2.out, HR3.out]
  exact ⟨⟨_, rfl, OM.nil _ _⟩, B2.out⟩
 have HR2 : Hid (ofPE sig l t = inE sig l) := by show _ = _; unfold ofPE; rw [if_neg hE]
 have HR3 : Hid (ofPL sig l t = []) := by show _ = _; unfold ofPL; rw [if_neg (fun h9 => hE h9.1)]
 have hne : (inE sig l != 0) = true := by rw [bne_iff_ne]; exact hE
 clear hE
 generalize inE sig l = z at hne HR2 ⊢
 go_wp2
 go_ret2
 rw [HR2.out, HR3.out]
 exact ⟨⟨_, rfl, OM.nil _ _⟩, B1.out⟩
theorem sides_any (sv lv av bv : Value) (sig : List Sy) (l : List Ip) (a b : List Int) (w : World) (hs : Sg w sv sig) (hl : Ins w lv l) (ha : Is w av a) (hb : Is w bv b) (hin : inE sig l = 0) (hta : termE sig a = 0) (htb : termE sig b = 0) (hla : a.length * 24 ≤ 70368744175616) (hlb : b.length * 24 ≤ 70368744175616) (vs : List Int) (hvs : varsL (a ++ b) = vs) :
  Calls Tryz.prog 50 #[sv, lv, .agg #[av, bv]] w fun e w' => (∃ v1 v2, e = .returned (.tuple #[v1, v2, .int .i64 (ovE2 (ofV sig l vs a) (ofV sig l vs b))]) ∧ (ovE2 (ofV sig l vs a) (ofV sig l vs b) = 0 → Ms w' v1 (ovL (ofV sig l vs a)) ∧ Ms w' v2 (ovL (ofV sig l vs b)))) ∧ Below w.heap.size w w' := by
 obtain ⟨so, sc, rfl, hso, hsc, _⟩ := Row.flat hs
 obtain ⟨lo, lc, rfl, hlo, hlc, _⟩ := Row.flat hl
 obtain ⟨aa, ac, rfl, hao, hac, _⟩ := Row.flat ha
 obtain ⟨ba, bc, rfl, hbo, hbc, _⟩ := Row.flat hb
 unfold maxLen at hsc hlc hac hbc
 have HS := hid hs
 have HL := hid hl
 have HA := hid ha
 have HB := hid hb
 have HIn := hid hin
 have HTa := hid hta
 have HTb := hid htb
 have HLim := hid hl.lim
 have HVs := hid hvs
 clear hs hl ha hb hin hta htb hvs
 obtain ⟨W0, hW0⟩ : ∃ X, X = w.alloc (.cells #[.slice aa a.length ac, .slice ba b.length bc] 41) := ⟨_, rfl⟩
 have B0 : Hid (Below w.heap.size w W0) := by rw [hW0]; exact zA _
 have r0 : W0.cell? ⟨w.heap.size, 0, none⟩ = some (.slice aa a.length ac) := by rw [hW0, cell_of_row _ _ _ _ _ _ (yU _ _)]; rfl
 have r1 : W0.cell? ⟨w.heap.size, 1, none⟩ = some (.slice ba b.length bc) := by rw [hW0, cell_of_row _ _ _ _ _ _ (yU _ _)]; rfl
 go_enter Tryz.func50, Tryz.ntmps50
 go_upto_region 1 with fail
 rw [← hW0]
 clear hW0
 generalize hgr : w.heap.size = gr at r0 r1 ⊢
 clear hgr
 have hR2 := rs_two (HA.out.kp (zK B0.out)) (HB.out.kp (zK B0.out)) (by omega) (by omega)
 have hB1 := zA (w := W0) (.cells #[.slice aa a.length ac, .slice ba b.length bc] 30)
 obtain ⟨W1, hW1⟩ : ∃ X, X = W0.alloc (.cells #[.slice aa a.length ac, .slice ba b.length bc] 30) := ⟨_, rfl⟩
 go_wp2_with fail
 rw [← hW1] at hR2 hB1 ⊢
 clear hW1
 refine (concat_any _ [a, b] W1 hR2 (by simp; omega)).mono ?_
 rintro e w2 ⟨cv, rfl, hoc, hb2⟩
 have B2 := hid (zS (zS B0.out hB1) hb2)
 have K2 := hid ((zK hB1).trans (zK hb2))
 have HC : Hid (Is w2 cv (a ++ b)) := by
  have h := hoc.is
  rw [show [a, b].flatten = a ++ b by simp] at h
  exact hid h
 clear hoc hb2 hB1 hR2
 go_wp2_with fail
 refine (vars_any _ (a ++ b) w2 HC.out (by rw [zF]; omega)).mono ?_
 rintro e w3 ⟨vv, rfl, hov, hb3⟩
 have B3 := hid (zS B2.out hb3)
 have K3 := hid (K2.out.trans (zK hb3))
 have HV := hid hov.is
 obtain ⟨va, vc, rfl, hva, hvc⟩ := hov.shape
 clear hov hb3 B2 K2
 rw [HVs.out] at HV hva ⊢
 have HNd : Hid vs.Nodup := by rw [← HVs.out]; exact hid (xEQ _)
 have HRg : Hid (∀ v ∈ vs, 0 ≤ v ∧ v ≤ 1048576) := fun v hv => by
  rw [← HVs.out] at hv
  obtain ⟨c, hc, h0, rfl⟩ := vars_of12 hv
  rcases yE.1 hc with h | h
  ·have := codes_of (xBX HTa.out).2 h
   omega
  have := codes_of (xBX HTb.out).2 h
  omega
 have HMa : Hid (∀ c ∈ a, c < 0 → (-1 - c) ∈ vs) := fun c hc h0 => by rw [← HVs.out]; exact xCG (yE.2 (.inl hc)) h0
 have HMb : Hid (∀ c ∈ b, c < 0 → (-1 - c) ∈ vs) := fun c hc h0 => by rw [← HVs.out]; exact xCG (yE.2 (.inr hc)) h0
 by_cases hbig : 512 < vs.length
 ·have HNa : Hid (ofV sig l vs a = none) := by show _ = _; unfold ofV; rw [if_pos hbig]
  have HZ : Hid (ovE2 (ofV sig l vs a) (ofV sig l vs b) = 2) := by show _ = _; rw [HNa.out]; rfl
  go_wp2_with fail
  refine (xFS _ _ _ vs w3 HV.out hbig).mono ?_
  rintro e w4 ⟨rfl, hb4⟩
  have B4 := hid (zS B3.out hb4)
  clear hb4 B3 hbig
  go_wp2
  go_ret3
  rw [HZ.out]
  exact ⟨⟨_, _, rfl, fun h => absurd h (by decide)⟩, zS B4.out (zA _)⟩
 have hsm : vs.length ≤ 512 := by omega
 go_wp2_with fail
 refine (xFT _ _ _ sig l vs w3 (HS.out.kp (zK B3.out)) (HL.out.kp (zK B3.out)) HV.out HIn.out HNd.out HRg.out hsm (sigE_len (xBX HTa.out).1)).mono ?_
 rintro e w4 ⟨gS, mb, rfl, hM, hb4⟩
 have B4 := hid (zS B3.out hb4)
 have K4 := hid (K3.out.trans (zK hb4))
 have hb34 := hb4.size
 have HM := hid hM
 clear hb4 hM hbig B3 K3
 have hB5 := zA (w := w4) (.cells #[.slice so sig.length sc, .slice (some ⟨gS, 0, none⟩) sig.length sig.length, .map (some mb)] 85)
 obtain ⟨W5, hW5⟩ : ∃ X, X = w4.alloc (.cells #[.slice so sig.length sc, .slice (some ⟨gS, 0, none⟩) sig.length sig.length, .map (some mb)] 85) := ⟨_, rfl⟩
 have y0 : W5.cell? ⟨w4.heap.size, 0, none⟩ = some (.slice so sig.length sc) := by rw [hW5, cell_of_row _ _ _ _ _ _ (yU _ _)]; rfl
 have y1 : W5.cell? ⟨w4.heap.size, 1, none⟩ = some (.slice (some ⟨gS, 0, none⟩) sig.length sig.length) := by rw [hW5, cell_of_row _ _ _ _ _ _ (yU _ _)]; rfl
 have y2 : W5.cell? ⟨w4.heap.size, 2, none⟩ = some (.map (some mb)) := by rw [hW5, cell_of_row _ _ _ _ _ _ (yU _ _)]; rfl
 rw [← hW5] at hB5
 have B5 := hid (zS B4.out hB5)
 have HM5 := hid (HM.out.later hB5)
 have hsz : w3.heap.size ≤ W5.heap.size := Nat.le_trans hb34 hB5.size
 have K5 := hid (K4.out.trans (zK hB5))
 go_upto_region 2 with fail
 rw [← hW5]
 clear hW5 hB5 HM B4 K4
 generalize w4.heap.size = gc at y0 y1 y2 ⊢
 have q0 := K5.out.cell _ _ r0
 have q1 := K5.out.cell _ _ r1
 clear r0 r1
 go_wp2_with fail
 refine (xEI _ _ sig l vs a w3.heap.size gS mb W5 (HS.out.kp (zK B5.out)) (HA.out.kp (zK B5.out)) HM5.out hsz HIn.out HLim.out (xBX HTa.out).2 HMa.out HNd.out hsm (by omega)).mono ?_
 rintro e w6 ⟨⟨v6, rfl, ho6⟩, hb6⟩
 have B6 := hid (zS B5.out hb6)
 have p0 := (zK hb6).cell _ _ y0
 have p1 := (zK hb6).cell _ _ y1
 have p2 := (zK hb6).cell _ _ y2
 have p4 := (zK hb6).cell _ _ q1
 have hsz6 := Nat.le_trans hsz hb6.size
 have HM6 := hid (HM5.out.later hb6)
 have HO6 := hid ho6.ms
 clear ho6 hb6 y0 y1 y2 q0 q1 HM5 B5 K5 hsz
 rcases Option.eq_none_or_eq_some (ofV sig l vs a) with ho | ⟨pa, ho⟩
 ·have HZ : Hid (ovE2 (ofV sig l vs a) (ofV sig l vs b) = 2) := by show _ = _; rw [ho]; rfl
  have hz : ovE (ofV sig l vs a) = 2 := by rw [ho]; rfl
  rw [hz]
  clear hz ho
  go_wp2
  go_ret3
  rw [HZ.out]
  exact ⟨⟨_, _, rfl, fun h => absurd h (by decide)⟩, B6.out⟩
 have HZ : Hid (ovE2 (ofV sig l vs a) (ofV sig l vs b) = ovE (ofV sig l vs b)) := by show _ = _; rw [ho]; rfl
 have hz : ovE (ofV sig l vs a) = 0 := by rw [ho]; rfl
 rw [hz]
 clear hz ho
 go_wp2_with fail
 refine (xEI _ _ sig l vs b w3.heap.size gS mb w6 (HS.out.kp (zK B6.out)) (HB.out.kp (zK B6.out)) HM6.out hsz6 HIn.out HLim.out (xBX HTb.out).2 HMb.out HNd.out hsm (by omega)).mono ?_
 rintro e w7 ⟨⟨v7, rfl, ho7⟩, hb7⟩
 have B7 := hid (zS B6.out hb7)
 have HO7 := hid ho7.ms
 have HO67 := hid (HO6.out.kp (zK hb7))
 clear ho7 hb7 p0 p1 p2 p4 HM6 B6 HO6
 go_wp2
 go_ret3
 rw [HZ.out]
 exact ⟨⟨_, _, rfl, fun _ => ⟨HO67.out, HO7.out⟩⟩, B7.out⟩
theorem ret2ii12 {a b c d : Int} (h : a = c) (h' : b = d) : Ending.returned (.tuple #[.int .i64 a, .int .i64 b]) = .returned (.tuple #[.int .i64 c, .int .i64 d]) := by rw [h, h']
theorem fallE_out {sig : List Sy} {l : List Ip} {a b : List Int} (h : inE sig l = 0) : fallE sig l a b = if termE sig a = 0 then if termE sig b = 0 then ovE2 (ofV sig l (varsL (a ++ b)) a) (ofV sig l (varsL (a ++ b)) b) else termE sig b else termE sig a := by
 unfold fallE
 rw [if_pos h]
theorem xFK {sig : List Sy} {l : List Ip} {a b : List Int} (h : ¬ fallE sig l a b = 0) : fallN sig l a b = 0 := by
 unfold fallN
 rw [if_neg h]
theorem xCF (sv lv av bv : Value) (sig : List Sy) (l : List Ip) (a b : List Int) (w : World) (hs : Sg w sv sig) (hl : Ins w lv l) (ha : Is w av a) (hb : Is w bv b) (hT : Tabs w) (hla : a.length * 24 ≤ 70368744175616) (hlb : b.length * 24 ≤ 70368744175616) :
  Calls Tryz.prog 19 #[sv, lv, .agg #[av, bv]] w fun e w' => e = .returned (.tuple #[.int .i64 (fallN sig l a b), .int .i64 (fallE sig l a b)]) ∧ Below w.heap.size w w' := by
 have HCk := hid (fun W (hB : Below w.heap.size w W) => xCK sv lv sig l W (hs.kp (zK hB)) (hl.kp (zK hB)) (hT.below hB))
 obtain ⟨so, sc, rfl, hso, hsc, _⟩ := Row.flat hs
 obtain ⟨lo, lc, rfl, hlo, hlc, _⟩ := Row.flat hl
 obtain ⟨aa, ac, rfl, hao, hac, _⟩ := Row.flat ha
 obtain ⟨ba, bc, rfl, hbo, hbc, _⟩ := Row.flat hb
 unfold maxLen at hsc hlc hac hbc
 have HS := hid hs
 have HL := hid hl
 have HA := hid ha
 have HB := hid hb
 have HT := hid hT
 clear hs hl ha hb hT
 obtain ⟨W0, hW0⟩ : ∃ X, X = w.alloc (.cells #[.slice aa a.length ac, .slice ba b.length bc] 41) := ⟨_, rfl⟩
 have B0 : Hid (Below w.heap.size w W0) := by rw [hW0]; exact zA _
 have r0 : W0.cell? ⟨w.heap.size, 0, none⟩ = some (.slice aa a.length ac) := by rw [hW0, cell_of_row _ _ _ _ _ _ (yU _ _)]; rfl
 have r1 : W0.cell? ⟨w.heap.size, 1, none⟩ = some (.slice ba b.length bc) := by rw [hW0, cell_of_row _ _ _ _ _ _ (yU _ _)]; rfl
 go_enter Tryz.func19, Tryz.ntmps19
 go_upto_region 1 with fail
 rw [← hW0]
 clear hW0
 generalize w.heap.size = gr at r0 r1 ⊢
 go_wp2_with fail
 refine (HCk.out W0 B0.out).mono ?_
 rintro e w1 ⟨rfl, hb1⟩
 have B1 := hid (zS B0.out hb1)
 have R0 := hid ((zK hb1).cell _ _ r0)
 have R1 := hid ((zK hb1).cell _ _ r1)
 clear hb1 HCk r0 r1
 by_cases hE : inE sig l = 0
 ·have HIn := hid hE
  have HR := hid (fallE_out (a := a) (b := b) hE)
  rw [hE]
  clear hE
  have r0 := R0.out
  have r1 := R1.out
  have hR2 := rs_two (HA.out.kp (zK B1.out)) (HB.out.kp (zK B1.out)) (by omega) (by omega)
  have hB2 := zA (w := w1) (.cells #[.slice aa a.length ac, .slice ba b.length bc] 30)
  obtain ⟨W2, hW2⟩ : ∃ X, X = w1.alloc (.cells #[.slice aa a.length ac, .slice ba b.length bc] 30) := ⟨_, rfl⟩
  have z0 : W2.cell? ⟨w1.heap.size, 0, none⟩ = some (.slice aa a.length ac) := by rw [hW2, cell_of_row _ _ _ _ _ _ (yU _ _)]; rfl
  have z1 : W2.cell? ⟨w1.heap.size, 1, none⟩ = some (.slice ba b.length bc) := by rw [hW2, cell_of_row _ _ _ _ _ _ (yU _ _)]; rfl
  go_wp2
  rw [← hW2] at hB2 ⊢
  clear hW2 hR2
  have B2 := hid (zS B1.out hB2)
  have S0 := hid ((zK hB2).cell _ _ R0.out)
  have S1 := hid ((zK hB2).cell _ _ R1.out)
  have Z0 := hid z0
  have Z1 := hid z1
  clear hB2 r0 r1 R0 R1 z0 z1 B1
  generalize w1.heap.size = g2 at Z0 Z1 ⊢
  go_loopw [27] (fun x wr => ∃ k : Nat, k ≤ 2 ∧ x = .int .i64 k ∧ (0 < k → termE sig a = 0) ∧ (1 < k → termE sig b = 0) ∧ Below W2.heap.size W2 wr) (fun x _ => 2 - (intOf x).toNat)
  case atStart => exact ⟨0, by omega, rfl, fun h => absurd h (by omega), fun h => absurd h (by omega), Below.refl _ _⟩
  case round =>
   obtain ⟨k, hk, rfl, h0, h1, hbl⟩ := hrel
   have H0 := hid h0
   have H1 := hid h1
   have BL := hid hbl
   clear h0 h1 hbl
   have BLw := hid (zS B2.out BL.out)
   match k, hk with
   | 0, _ =>
    have z0 := (zK BL.out).cell _ _ Z0.out
    go_wp2_with fail
    refine (xBP _ _ sig a wr (HS.out.kp (zK BLw.out)) (HA.out.kp (zK BLw.out)) (HT.out.below BLw.out) (by omega)).mono ?_
    rintro e w3 ⟨rfl, hb3⟩
    have B3 := hid (zS BL.out hb3)
    have B3w := hid (zS BLw.out hb3)
    clear hb3 z0
    by_cases hE2 : termE sig a = 0
    ·have HE2 := hid hE2
     rw [hE2]
     clear hE2
     go_wp2
     go_roundw
     case rel => exact ⟨1, by omega, by go_num, fun _ => HE2.out, fun h => absurd h (by omega), B3.out⟩
     case measure => simp [intOf]
    ·have HR2 : Hid (fallE sig l a b = termE sig a) := by show _ = _; rw [HR.out, if_neg hE2]
     have HN := hid (xFK (a := a) (b := b) (fun h => hE2 (HR2.out ▸ h)))
     have hne : (termE sig a != 0) = true := by rw [bne_iff_ne]; exact hE2
     clear hE2 HR
     generalize termE sig a = z at hne HR2 ⊢
     go_wp2
     go_ret2
     exact ⟨ret2ii12 HN.out.symm HR2.out.symm, B3w.out⟩
   | 1, _ =>
    have z1 := (zK BL.out).cell _ _ Z1.out
    have HTa := hid (H0.out (by omega))
    go_wp2_with fail
    refine (xBP _ _ sig b wr (HS.out.kp (zK BLw.out)) (HB.out.kp (zK BLw.out)) (HT.out.below BLw.out) (by omega)).mono ?_
    rintro e w3 ⟨rfl, hb3⟩
    have B3 := hid (zS BL.out hb3)
    have B3w := hid (zS BLw.out hb3)
    clear hb3 z1
    by_cases hE2 : termE sig b = 0
    ·have HE2 := hid hE2
     rw [hE2]
     clear hE2
     go_wp2
     go_roundw
     case rel => exact ⟨2, by omega, by go_num, fun _ => HTa.out, fun _ => HE2.out, B3.out⟩
     case measure => simp [intOf]
    ·have HR2 : Hid (fallE sig l a b = termE sig b) := by show _ = _; rw [HR.out, if_pos HTa.out, if_neg hE2]
     have HN := hid (xFK (a := a) (b := b) (fun h => hE2 (HR2.out ▸ h)))
     have hne : (termE sig b != 0) = true := by rw [bne_iff_ne]; exact hE2
     clear hE2 HR
     generalize termE sig b = z at hne HR2 ⊢
     go_wp2
     go_ret2
     exact ⟨ret2ii12 HN.out.symm HR2.out.symm, B3w.out⟩
   | 2, _ =>
    have HTa := hid (H0.out (by omega))
    have HTb := hid (H1.out (by omega))
    have s0 := (zK BL.out).cell _ _ S0.out
    have s1 := (zK BL.out).cell _ _ S1.out
    have HR2 : Hid (fallE sig l a b = ovE2 (ofV sig l (varsL (a ++ b)) a) (ofV sig l (varsL (a ++ b)) b)) := by show _ = _; rw [HR.out, if_pos HTa.out, if_pos HTb.out]
    clear HR H0 H1 Z0 Z1
    go_wp2_with fail
    refine (sides_any _ _ _ _ sig l a b wr (HS.out.kp (zK BLw.out)) (HL.out.kp (zK BLw.out)) (HA.out.kp (zK BLw.out)) (HB.out.kp (zK BLw.out)) HIn.out HTa.out HTb.out hla hlb _ rfl).mono ?_
    rintro e w3 ⟨⟨v1, v2, rfl, hms⟩, hb3⟩
    have B3 := hid (zS BLw.out hb3)
    rw [← HR2.out] at hms ⊢
    have HMs := hid hms
    clear hms hb3 s0 s1
    by_cases hE2 : fallE sig l a b = 0
    ·obtain ⟨hm1, hm2⟩ := HMs.out hE2
     have HE2 := hid hE2
     have HN : Hid (fallN sig l a b = fallP (ovL (ofV sig l (varsL (a ++ b)) a)) (ovL (ofV sig l (varsL (a ++ b)) b))) := by show _ = _; unfold fallN; rw [if_pos hE2]
     have HM1 := hid hm1
     have HM2 := hid hm2
     rw [hE2]
     clear hE2 hm1 hm2 HMs
     go_wp2_with fail
     refine (greater_any _ _ _ _ w3 HM1.out HM2.out).mono ?_
     rintro e w4 ⟨rfl, hb4⟩
     have B4 := hid (zS B3.out hb4)
     have HM1b := hid (HM1.out.kp (zK hb4))
     have HM2b := hid (HM2.out.kp (zK hb4))
     clear hb4 HM1 HM2
     generalize ovL (ofV sig l (varsL (a ++ b)) a) = p at HN HM1b ⊢
     generalize ovL (ofV sig l (varsL (a ++ b)) b) = q at HN HM2b ⊢
     cases hg : greaterB p q with
     | true =>
      have HN2 : Hid (fallN sig l a b = 2) := by show _ = _; rw [HN.out]; unfold fallP; rw [if_pos hg]
      clear hg HN
      go_wp2
      go_ret2
      exact ⟨ret2ii12 HN2.out.symm HE2.out.symm, B4.out⟩
     | false =>
      have HN2 : Hid (fallN sig l a b = if atLeastB p q = true then 1 else 0) := by show _ = _; rw [HN.out]; unfold fallP; rw [if_neg (by rw [hg]; decide)]
      clear hg HN
      go_wp2_with fail
      refine (atLeast_any _ _ p q w4 HM1b.out HM2b.out).mono ?_
      rintro e w5 ⟨rfl, hb5⟩
      have B5 := hid (zS B4.out hb5)
      clear hb5
      cases hg : atLeastB p q with
      | true =>
       have HN3 : Hid (fallN sig l a b = 1) := by show _ = _; rw [HN2.out, if_pos hg]
       clear hg HN2
       go_wp2
       go_ret2
       exact ⟨ret2ii12 HN3.out.symm HE2.out.symm, B5.out⟩
      | false =>
       have HN3 : Hid (fallN sig l a b = 0) := by show _ = _; rw [HN2.out, if_neg (by rw [hg]; decide)]
       clear hg HN2
       go_wp2
       go_ret2
       exact ⟨ret2ii12 HN3.out.symm HE2.out.symm, B5.out⟩
    have HN := hid (xFK hE2)
    have hne : (fallE sig l a b != 0) = true := by rw [bne_iff_ne]; exact hE2
    obtain ⟨z, hz⟩ : ∃ z, z = fallE sig l a b := ⟨_, rfl⟩
    rw [← hz] at hne ⊢
    have HZ := hid hz
    clear hE2 HMs HR2 hz
    go_wp2
    go_ret2
    exact ⟨ret2ii12 HN.out.symm HZ.out, B3.out⟩
 have HR : Hid (fallE sig l a b = inE sig l) := by show _ = _; unfold fallE; rw [if_neg hE]
 have HN := hid (xFK (a := a) (b := b) (fun h => hE (HR.out ▸ h)))
 have hne : (inE sig l != 0) = true := by rw [bne_iff_ne]; exact hE
 clear hE
 generalize inE sig l = z at hne HR ⊢
 go_wp2
 go_ret2
 exact ⟨ret2ii12 HN.out.symm HR.out.symm, B1.out⟩
theorem only_to {A B : Nat → Bool} {w w' : World} (hs : w.heap.size ≤ w'.heap.size) (h : ∀ g, g < w.heap.size → A g = true → B g = true ∧ w'.heap[g]? = w.heap[g]?) : Kp (onlyY A w) (onlyY B w') := by
 refine ⟨by rw [xBY, xBY]; exact hs, fun a v hv => ?_⟩
 by_cases hA : A a.block = true
 ·have hlt := yJ _ _ hv
  rw [xBY] at hlt
  obtain ⟨h1, h2⟩ := h _ hlt hA
  rw [xDW hA] at hv
  rw [xDW h1, World.cell?_of_block h2]
  exact hv
 rw [only_notY hA] at hv
 cases hv
def noB (A : Nat → Bool) (v : Value) : Nat → Bool := fun g => A g && decide (v.ownBlock ≠ some g)
end Go.Proofs.YtdjmjhlbjcgoiaaGreatDoor
