/- Texts of the proof, one behind the other. -/
import Derived.Test.YtoapgbaibpkckaaGreatDoorOwn9
import Derived.Test.YtoapgbaibpkckaaGreatDoorOwn2
import Derived.Test.YtoapgbaibpkckaaGreatDoorOwn4
import Derived.Test.YtoapgbaibpkckaaGreatDoorOwn3
import Derived.DeepKeys4
import Derived.WideKeyEntry
import Derived.Deep.LoopGhost
import Derived.Test.YtoapgbaibpkckaaGreatDoorOwn1
import Derived.Ground.Names2Prog
import Derived.Shelf.Slices.CompactI
import Derived.Laws.OwnMore
import Derived.Lib.SliceRun
/- hasFree of package system walked. -/
namespace Go.Proofs.YtoapgbaibpkckaaGreatDoor
open Go.RowKit Go.Maps Go.BigFrame

set_option maxRecDepth 100000 in
set_option maxHeartbeats 800000 in
theorem freeClosure_any (x : Int) (c b : Nat) (L : List (Int × Value)) (w : World) (hc : w.cell? ⟨c, 0, none⟩ = some (.map (some b))) (hm : MapV w b L) (hu : ∀ n v, L.lookup n = some v → v = .agg #[]) (h1 : -9223372036854775808 ≤ x) (h2 : x ≤ 9223372036854775807) :
    Calls Tryz.prog 108 #[.int .i64 x, .pointer (some ⟨c, 0, none⟩)] w fun e w' => e = .returned (.bool (!(L.lookup x).isSome)) ∧ Below w.heap.size w w' := by
  have hlk := hm.look under_set (zero_unit w) h1 h2
  have hg : (L.lookup x).getD (.agg #[]) = .agg #[] := by
    cases hx : L.lookup x with
    | none => rfl
    | some v => exact hu x v hx
  rw [hg] at hlk
  have HLk := hid hlk
  clear hm hlk hg hu
  cases hl : (L.lookup x).isSome with
  | true =>
    rw [hl] at HLk
    go_enter Tryz.func108, Tryz.ntmps108
    go_wp2_with (first
      | (at_lookup; refine wpList_lookup_run rfl _ _ _ _ rfl _ _ _ rfl rfl HLk.out ?_))
    all_goals (go_ret; exact ⟨rfl, below_alloc _⟩)
  | false =>
    rw [hl] at HLk
    go_enter Tryz.func108, Tryz.ntmps108
    go_wp2_with (first
      | (at_lookup; refine wpList_lookup_run rfl _ _ _ _ rfl _ _ _ rfl rfl HLk.out ?_))
    all_goals (go_ret; exact ⟨rfl, below_alloc _⟩)

set_option maxRecDepth 100000 in
set_option maxHeartbeats 800000 in
theorem indexFree_any (vv : Value) (xs : List Int) (c b : Nat) (L : List (Int × Value)) (w : World) (hv : Is w vv xs) (hc : w.cell? ⟨c, 0, none⟩ = some (.map (some b))) (hm : MapV w b L) (hu : ∀ n v, L.lookup n = some v → v = .agg #[]) :
    Calls Tryz.prog 128 #[vv, .func (.func 108) #[] #[.pointer (some ⟨c, 0, none⟩)]] w fun e w' => ∃ n : Int, e = .returned (.int .i64 n) ∧ decide (0 ≤ n) = (xs.any fun x => !(L.lookup x).isSome) ∧ Below w.heap.size w w' := by
  obtain ⟨ao, cap, rfl, hao, hca, _⟩ := Row.flat hv
  unfold maxLen at hca
  have HV := hid hv
  have HC := hid hc
  have HM := hid hm
  have HU := hid hu
  clear hv hc hm hu
  go_enter Tryz.func128, Tryz.ntmps128
  go_wp2
  go_loopw [8] (fun i wr => ∃ k : Nat, k ≤ xs.length ∧ i = .int .i64 k ∧ (xs.take k).any (fun x => !(L.lookup x).isSome) = false ∧ Below w.heap.size w wr) (fun i _ => xs.length - (intOf i).toNat)
  case atStart => exact ⟨0, Nat.zero_le _, rfl, by simp, Below.refl _ _⟩
  case round =>
    obtain ⟨k, hk, rfl, hno, hbl⟩ := hrel
    have HNo := hid hno
    have HB := hid hbl
    clear hno
    by_cases hlt : k < xs.length
    · obtain ⟨g, off, x, rfl, hx1, hx2, hx3, hx4⟩ := (HV.out.kp (Kp.of_below hbl)).at hlt
      have HX := hid hx1
      clear hx1 hbl
      go_wp2_with fail
      refine (freeClosure_any x c b L wr ((Kp.of_below HB.out).cell _ _ HC.out) (HM.out.later HB.out) HU.out hx3 hx4).mono ?_
      rintro e w2 ⟨rfl, hb2⟩
      have HB2 := hid (below_step HB.out hb2)
      clear hb2 hx2
      cases hl : (L.lookup x).isSome with
      | false =>
        have HF : Hid ((xs.any fun x => !(L.lookup x).isSome) = true) := by
          show _ = _
          rw [List.any_eq_true]
          exact ⟨x, List.mem_of_getElem? HX.out, by rw [hl]; rfl⟩
        clear hl
        go_wp2
        go_ret
        exact ⟨_, rfl, by rw [HF.out]; simp, HB2.out⟩
      | true =>
        have HF : Hid ((xs.take (k + 1)).any (fun x => !(L.lookup x).isSome) = false) := by
          show _ = _
          rw [take_get HX.out, List.any_append, HNo.out]
          simp [hl]
        clear hl
        go_wp2
        go_roundw
        case rel => exact ⟨k + 1, by omega, by go_num, HF.out, HB2.out⟩
        case measure => simp only [intOf]; omega
    · have HF : Hid ((xs.any fun x => !(L.lookup x).isSome) = false) := by
        have h9 := HNo.out
        rw [List.take_of_length_le (by omega)] at h9
        exact h9
      go_wp2
      go_ret
      exact ⟨-1, rfl, by rw [HF.out]; rfl, HB.out⟩

set_option maxRecDepth 100000 in
theorem containsFree_any (vv : Value) (xs : List Int) (c b : Nat) (L : List (Int × Value)) (w : World) (hv : Is w vv xs) (hc : w.cell? ⟨c, 0, none⟩ = some (.map (some b))) (hm : MapV w b L) (hu : ∀ n v, L.lookup n = some v → v = .agg #[]) :
    Calls Tryz.prog 107 #[vv, .func (.func 108) #[] #[.pointer (some ⟨c, 0, none⟩)]] w fun e w' => e = .returned (.bool (xs.any fun x => !(L.lookup x).isSome)) ∧ Below w.heap.size w w' := by
  have HC := hid (indexFree_any vv xs c b L w hv hc hm hu)
  clear hv hc hm hu
  generalize (xs.any fun x => !(L.lookup x).isSome) = B at HC ⊢
  go_enter Tryz.func107, Tryz.ntmps107
  go_wp2_with fail
  refine HC.out.mono ?_
  rintro e w2 ⟨n, rfl, hn, hb2⟩
  have HN := hid hn
  clear hn
  go_wp2
  go_ret
  exact ⟨ret1b HN.out, hb2⟩

/-- Whether the right side has a variable that the left one has not. -/
def freeB (l r : List Int) : Bool := (varsL r).any fun x => !decide (x ∈ varsL l)

theorem varsL_len (t : List Int) : (varsL t).length ≤ t.length := by
  unfold varsL
  rw [List.length_map]
  have h : ∀ (t m : List Int), (metA m t).length ≤ m.length + t.length := fun t => by
    induction t with
    | nil => intro m; simp [metA]
    | cons c t ih =>
      intro m
      unfold metA
      split
      · have := ih m
        simp only [List.length_cons]
        omega
      · have := ih (m ++ [c])
        simp only [List.length_append, List.length_cons, List.length_nil] at this ⊢
        omega
  simpa using h t []

theorem vars_onceS (t : List Int) : (varsL t).Nodup := by
  unfold varsL
  refine List.Pairwise.map _ ?_ (met_once t [] (by simp))
  intro a b hab e
  omega

set_option maxRecDepth 100000 in
set_option maxHeartbeats 1600000 in
theorem hasFree_any (lv rv : Value) (l r : List Int) (w : World) (hl : Is w lv l) (hr : Is w rv r) (h1 : l.length * 8 ≤ 140737488351232) (h2 : r.length * 8 ≤ 140737488351232) :
    Calls Tryz.prog 81 #[.agg #[lv, rv]] w fun e w' => e = .returned (.bool (freeB l r)) ∧ Below w.heap.size w w' := by
  obtain ⟨a1, c1, e1, _⟩ := hl.flatI
  subst e1
  obtain ⟨a2, c2, e2, _⟩ := hr.flatI
  subst e2
  have HL := hid hl
  have HR := hid hr
  clear hl hr
  have hmm := @run_makeMap Tryz.prog
  obtain ⟨w0, hw0⟩ : ∃ X, X = ((w.alloc (.cells #[.slice a1 l.length c1, .slice a2 r.length c2] 38)).alloc (.map #[] 0)).alloc (.cells #[.map (some (w.heap.size + 1))] 127) := ⟨_, rfl⟩
  have hn1 : (w.alloc (.cells #[.slice a1 l.length c1, .slice a2 r.length c2] 38)).heap.size = w.heap.size + 1 := World.size_alloc _ _
  have hn2 : ((w.alloc (.cells #[.slice a1 l.length c1, .slice a2 r.length c2] 38)).alloc (.map #[] 0)).heap.size = w.heap.size + 1 + 1 := by rw [World.size_alloc, hn1]
  have C0 : Hid (Below w.heap.size w w0) := by rw [hw0]; exact below_step (below_step (below_alloc _) (below_alloc _)) (below_alloc _)
  have HM0 : Hid (MapV w0 (w.heap.size + 1) []) := by
    have h9 := (MapV.made (w.alloc (.cells #[.slice a1 l.length c1, .slice a2 r.length c2] 38))).later (below_alloc (.cells #[.map (some (w.heap.size + 1))] 127))
    rw [hn1, ← hw0] at h9
    exact h9
  have HCm : Hid (w0.cell? ⟨w.heap.size + 1 + 1, 0, none⟩ = some (.map (some (w.heap.size + 1)))) := by
    show _ = _
    rw [hw0, ← hn2]
    exact cell_new rfl
  have HC1 : Hid (w0.cell? ⟨w.heap.size, 1, none⟩ = some (.slice a2 r.length c2)) := by
    show _ = _
    rw [hw0]
    exact (Kp.of_below (below_step (below_alloc (.map #[] 0)) (below_alloc _))).cell _ _ (cell_new rfl)
  clear hn1 hn2
  go_enter Tryz.func81, Tryz.ntmps81
  go_wp2_with fail
  rw [← hw0]
  clear hw0
  refine (vars_any _ l w0 (HL.out.kp (Kp.of_below C0.out)) h1).mono ?_
  rintro e w1 ⟨v1, rfl, ho1, hb1⟩
  obtain ⟨vo, vc, hv1, hvc1, hvc2⟩ := ho1.shape
  subst hv1
  unfold maxLen at hvc2
  have C1 := hid (below_step C0.out hb1)
  have HM1 := hid (HM0.out.later hb1)
  have HCm1 := hid ((Kp.of_below hb1).cell _ _ HCm.out)
  have HC11 := hid ((Kp.of_below hb1).cell _ _ HC1.out)
  have HV1 := hid ho1.is
  have HOn := hid (vars_onceS l)
  have HMe : Hid (freeB l r = ((varsL r).any fun x => !decide (x ∈ varsL l))) := rfl
  have hvl : (varsL l).length ≤ 17592186043904 := by have := varsL_len l; omega
  clear ho1 hb1 HM0 HCm HC1 hmm
  generalize varsL l = V at HV1 HOn HMe hvl hvc1 ⊢
  go_wp2
  go_loopw [11] (fun iv wr => ∃ (k : Nat) (L : List (Int × Value)), k ≤ V.length ∧ L.length = k ∧ iv = .int .i64 k ∧ MapV wr (w.heap.size + 1) L ∧ (∀ n, (L.lookup n).isSome = decide (n ∈ V.take k)) ∧ (∀ n v, L.lookup n = some v → v = .agg #[]) ∧ Kp w1 wr ∧ Below w.heap.size w wr) (fun iv _ => V.length - (intOf iv).toNat)
  case atStart => exact ⟨0, [], Nat.zero_le _, rfl, rfl, HM1.out, fun n => (by simp), fun n v h => (by cases h), Kp.refl _, C1.out⟩
  case round =>
    obtain ⟨k, L, hk, hLk, rfl, hm, hlo, hu, hkp, hbl⟩ := hrel
    have HM := hid hm
    have HLo := hid hlo
    have HU := hid hu
    have HKp := hid hkp
    have HB := hid hbl
    have HLk := hid hLk
    have hcm := hkp.cell _ _ HCm1.out
    clear hm hlo hu hLk
    by_cases hlt : k < V.length
    · obtain ⟨g, off, x, rfl, hx1, hx2, hx3, hx4⟩ := (HV1.out.kp hkp).at hlt
      have hno : L.lookup x = none := by
        cases hq : L.lookup x with
        | none => rfl
        | some v =>
          have h9 := HLo.out x
          rw [hq] at h9
          have h8 : x ∈ V.take k := by simpa using h9.symm
          obtain ⟨j, hj⟩ := List.getElem?_of_mem h8
          have hjl := (List.getElem?_eq_some_iff.1 hj).1
          rw [List.length_take] at hjl
          rw [List.getElem?_take_of_lt (by omega)] at hj
          exfalso
          have h7 := (List.getElem_inj HOn.out (h₀ := (List.getElem?_eq_some_iff.1 hj).1) (h₁ := (List.getElem?_eq_some_iff.1 hx1).1)).1 (by rw [(List.getElem?_eq_some_iff.1 hj).2, (List.getElem?_eq_some_iff.1 hx1).2])
          omega
      obtain ⟨w4, hr4, hm4, hg4⟩ := HM.out.store under_set hx3 hx4 hno (by rw [HLk.out]; unfold maxLen; omega) (.agg #[])
      have HR4 := hid hr4
      have HM4 := hid hm4
      obtain ⟨es, clock, hes⟩ := HM.out.isMap
      have HK4 := hid (hkp.trans (Kp.of_map hg4 hes))
      have HB4 : Hid (Below w.heap.size w w4) := hbl.grown hg4 hbl.size (fun j hj => by cases hj; exact Nat.le_succ _)
      have HLo4 : Hid (∀ n, (List.lookup n ((x, Value.agg #[]) :: L)).isSome = decide (n ∈ V.take (k + 1))) := fun n => by
        rw [List.lookup_cons, take_get hx1]
        by_cases e : n = x
        · subst e
          simp
        · rw [show (n == x) = false by simpa using e]
          simp only [List.mem_append, List.mem_singleton, e, or_false]
          exact HLo.out n
      have HU4 : Hid (∀ n v, List.lookup n ((x, Value.agg #[]) :: L) = some v → v = .agg #[]) := fun n v hv => by
        rw [List.lookup_cons] at hv
        by_cases e : n = x
        · subst e
          simp at hv
          exact hv.symm
        · rw [show (n == x) = false by simpa using e] at hv
          exact HU.out n v hv
      clear hr4 hm4 hg4 hes hx1 hno hbl hkp
      go_wp2_with (first
        | (at_mapUpdate; refine wpList_mapUpdate_run rfl _ _ _ _ rfl _ _ _ rfl rfl rfl HR4.out ?_))
      go_roundw
      case rel => exact ⟨k + 1, _, hlt, by rw [List.length_cons, HLk.out], by go_num, HM4.out, HLo4.out, HU4.out, HK4.out, HB4.out⟩
      case measure => simp only [intOf]; omega
    · have hc1' := hkp.cell _ _ HC11.out
      have HLo2 : Hid (∀ n, (!(L.lookup n).isSome) = !decide (n ∈ V)) := fun n => by
        have h9 := HLo.out n
        rw [List.take_of_length_le (by omega)] at h9
        rw [h9]
      clear hbl hkp
      go_wp2_with fail
      refine (vars_any _ r wr (HR.out.kp (Kp.of_below HB.out)) h2).mono ?_
      rintro e w5 ⟨v5, rfl, ho5, hb5⟩
      have HV5 := hid ho5.is
      have HB5 := hid (below_step HB.out hb5)
      have HM5 := hid (HM.out.later hb5)
      have HC5 := hid ((Kp.of_below hb5).cell _ _ hcm)
      clear ho5 hb5 hcm hc1'
      go_wp2_with fail
      refine (containsFree_any _ (varsL r) _ _ L w5 HV5.out HC5.out HM5.out HU.out).mono ?_
      rintro e w6 ⟨rfl, hb6⟩
      have HB6 := hid (below_step HB5.out hb6)
      have HF : Hid (((varsL r).any fun x => !(L.lookup x).isSome) = freeB l r) := by
        show _ = _
        rw [HMe.out]
        congr 1
        funext x
        exact HLo2.out x
      rw [HF.out]
      clear hb6 HF
      go_wp2
      go_ret
      exact ⟨rfl, HB6.out⟩

end Go.Proofs.YtoapgbaibpkckaaGreatDoor

/- checkRule, Check and isRight of package system walked. -/
namespace Go.Proofs.YtoapgbaibpkckaaGreatDoor
open Go.RowKit Go.Maps Go.BigFrame

theorem row_posS {sig : List Sy} {u : List Int} (h : rowE sig u = 0) : 0 < u.length := by
  cases u with
  | nil => simp [rowE, firstT] at h
  | cons c u => simp

/-- A rule: its sides. -/
abbrev Rl := List Int × List Int

/-- What is wrong with a rule, of a signature that may be. -/
def ruleE (sig : List Sy) (r : Rl) : Int :=
  if termE sig r.1 = 0 then (if termE sig r.2 = 0 then (if 512 < r.1.length ∨ 512 < r.2.length then 2 else if (r.1[0]?).getD 0 < 0 then 71 else if freeB r.1 r.2 then 72 else 0) else termE sig r.2) else termE sig r.1

set_option maxRecDepth 100000 in
set_option maxHeartbeats 1600000 in
theorem checkRule_any (sv lv rv : Value) (sig : List Sy) (l r : List Int) (w : World) (hs : Sg w sv sig) (hl : Is w lv l) (hr : Is w rv r) (hT : Tabs w) (h1 : l.length * 8 ≤ 140737488351232) (h2 : r.length * 8 ≤ 140737488351232) :
    Calls Tryz.prog 55 #[sv, .agg #[lv, rv]] w fun e w' => e = .returned (.int .i64 (ruleE sig (l, r))) ∧ Below w.heap.size w w' := by
  obtain ⟨a1, c1, e1, _⟩ := hl.flatI
  subst e1
  obtain ⟨a2, c2, e2, _⟩ := hr.flatI
  subst e2
  have HS := hid hs
  have HL := hid hl
  have HR := hid hr
  have HT := hid hT
  clear hs hl hr hT
  obtain ⟨w0, hw0⟩ : ∃ X, X = w.alloc (.cells #[.slice a1 l.length c1, .slice a2 r.length c2] 38) := ⟨_, rfl⟩
  have C0 : Hid (Below w.heap.size w w0) := by rw [hw0]; exact below_alloc _
  have HC : Hid (∀ W, Below w0.heap.size w0 W → W.cell? ⟨w.heap.size, 0, none⟩ = some (.slice a1 l.length c1) ∧ W.cell? ⟨w.heap.size, 1, none⟩ = some (.slice a2 r.length c2)) := fun W hW => by
    have hk := Kp.of_below hW
    rw [hw0] at hk
    exact ⟨hk.cell _ _ (cell_new rfl), hk.cell _ _ (cell_new rfl)⟩
  obtain ⟨E, hE⟩ : ∃ E, E = ruleE sig (l, r) := ⟨_, rfl⟩
  have HE := hid hE
  rw [← hE]
  clear hE
  unfold ruleE at HE
  go_enter Tryz.func55, Tryz.ntmps55
  go_wp2_with fail
  rw [← hw0]
  clear hw0
  refine (check_any sv _ sig l w0 (HS.out.kp (Kp.of_below C0.out)) (HL.out.kp (Kp.of_below C0.out)) (HT.out.below C0.out) h1).mono ?_
  rintro e w1 ⟨rfl, hb1⟩
  have C1 := hid (below_step C0.out hb1)
  have D1 := hid hb1
  clear hb1
  by_cases hel : termE sig l = 0
  · rw [hel]
    have HEl := hid hel
    rw [if_pos hel] at HE
    clear hel
    obtain ⟨x0, x1⟩ := HC.out w1 D1.out
    go_wp2_with fail
    refine (check_any sv _ sig r w1 (HS.out.kp (Kp.of_below C1.out)) (HR.out.kp (Kp.of_below C1.out)) (HT.out.below C1.out) h2).mono ?_
    rintro e w2 ⟨rfl, hb2⟩
    have C2 := hid (below_step C1.out hb2)
    have D2 := hid (below_step D1.out hb2)
    clear hb2 x0 x1
    by_cases her : termE sig r = 0
    · rw [her]
      rw [if_pos her] at HE
      clear her
      obtain ⟨x0, x1⟩ := HC.out w2 D2.out
      have hlp := row_posS (term_parts HEl.out).2
      obtain ⟨gl, ol, c, rfl, hc, hcx, _, _⟩ := (HL.out.kp (Kp.of_below C2.out)).at hlp
      rw [hc] at HE
      simp only [Option.getD_some] at HE
      rw [Nat.add_zero] at hcx
      by_cases hb1 : 512 < l.length
      · have hd1 : decide ((512 : Int) < (l.length : Int)) = true := by simpa using (show (512 : Int) < (l.length : Int) by omega)
        rw [if_pos (.inl hb1)] at HE
        go_wp2
        go_ret
        exact ⟨ret1i HE.out.symm, C2.out⟩
      · have hd1 : decide ((512 : Int) < (l.length : Int)) = false := by simpa using (show ¬ (512 : Int) < (l.length : Int) by omega)
        by_cases hb2 : 512 < r.length
        · have hd2 : decide ((512 : Int) < (r.length : Int)) = true := by simpa using (show (512 : Int) < (r.length : Int) by omega)
          rw [if_pos (.inr hb2)] at HE
          go_wp2
          go_ret
          exact ⟨ret1i HE.out.symm, C2.out⟩
        · have hd2 : decide ((512 : Int) < (r.length : Int)) = false := by simpa using (show ¬ (512 : Int) < (r.length : Int) by omega)
          rw [if_neg (by omega)] at HE
          by_cases h0 : c < 0
          · rw [if_pos h0] at HE
            have hd0 : decide (c < 0) = true := by simpa using h0
            clear hc
            go_wp2
            go_ret
            exact ⟨ret1i HE.out.symm, C2.out⟩
          · rw [if_neg h0] at HE
            have hd0 : decide (c < 0) = false := by simpa using h0
            clear hc
            go_wp2_with fail
            refine (hasFree_any _ _ l r w2 (HL.out.kp (Kp.of_below C2.out)) (HR.out.kp (Kp.of_below C2.out)) h1 h2).mono ?_
            rintro e w3 ⟨rfl, hb3⟩
            have C3 := hid (below_step C2.out hb3)
            clear hb3 x0 x1 hcx
            cases hf : freeB l r with
            | true =>
              rw [hf, if_pos rfl] at HE
              go_wp2
              go_ret
              exact ⟨ret1i HE.out.symm, C3.out⟩
            | false =>
              rw [hf, if_neg (by simp)] at HE
              go_wp2
              go_ret
              exact ⟨ret1i HE.out.symm, C3.out⟩
    · rw [if_neg her] at HE
      generalize termE sig r = T at her HE ⊢
      have hne : (T != 0) = true := by simpa using her
      go_wp2
      go_ret
      exact ⟨ret1i HE.out.symm, C2.out⟩
  · rw [if_neg hel] at HE
    generalize termE sig l = T at hel HE ⊢
    have hne : (T != 0) = true := by simpa using hel
    go_wp2
    go_ret
    exact ⟨ret1i HE.out.symm, C1.out⟩

/-- A rule at an address. -/
def EU (w : World) (g o : Nat) (r : Rl) : Prop := r.1.length * 8 ≤ 140737488351232 ∧ r.2.length * 8 ≤ 140737488351232 ∧ ∃ v1 v2, w.cell? ⟨g, o, none⟩ = some v1 ∧ w.cell? ⟨g, o + 1, none⟩ = some v2 ∧ Is w v1 r.1 ∧ Is w v2 r.2

theorem EU.kp {w w' : World} (hk : Kp w w') (g o : Nat) (r : Rl) (h : EU w g o r) : EU w' g o r := by
  obtain ⟨h1, h2, v1, v2, h3, h4, h5, h6⟩ := h
  exact ⟨h1, h2, v1, v2, hk.cell _ _ h3, hk.cell _ _ h4, h5.kp hk, h6.kp hk⟩

/-- A row of rules. -/
def RU (w : World) (v : Value) (rs : List Rl) : Prop := Row EU 2 w v rs

theorem RU.kp {w w' : World} {v : Value} {rs : List Rl} (h : RU w v rs) (hk : Kp w w') : RU w' v rs := Row.imp h hk.size (EU.kp hk)

theorem RU.at {w : World} {ao : Option Addr} {n cap : Nat} {rs : List Rl} (h : RU w (.slice ao n cap) rs) {k : Nat} (hk : k < rs.length) :
    ∃ g off l r a1 c1 a2 c2, ao = some ⟨g, off, none⟩ ∧ rs[k]? = some (l, r) ∧ w.cell? ⟨g, off + k * 2, none⟩ = some (.slice a1 l.length c1) ∧ w.cell? ⟨g, off + k * 2 + 1, none⟩ = some (.slice a2 r.length c2) ∧
      Is w (.slice a1 l.length c1) l ∧ Is w (.slice a2 r.length c2) r ∧ l.length * 8 ≤ 140737488351232 ∧ r.length * 8 ≤ 140737488351232 := by
  obtain ⟨ao', cap', hv, _, _, hx⟩ := Row.flat h
  simp only [Value.slice.injEq] at hv
  obtain ⟨rfl, rfl, rfl⟩ := hv
  obtain ⟨g, off, ⟨l, r⟩, rfl, hm, h1, h2, v1, v2, h3, h4, h5, h6⟩ := hx k hk
  obtain ⟨a1, c1, rfl, _⟩ := Row.flat h5
  obtain ⟨a2, c2, rfl, _⟩ := Row.flat h6
  exact ⟨g, off, l, r, a1, c1, a2, c2, rfl, hm, h3, h4, h5, h6, h1, h2⟩

/-- What is wrong with rules, and with which, from a place on. -/
def rulesGo (sig : List Sy) : Nat → List Rl → Int × Int
  | _, [] => (0, 0)
  | k, r :: rs => if ruleE sig r = 0 then rulesGo sig (k + 1) rs else (ruleE sig r, k)

/-- What is wrong with a system, and with which rule. -/
def sysE (sig : List Sy) (rs : List Rl) : Int × Int := if aheadE sig rs.length = 0 then rulesGo sig 0 rs else (aheadE sig rs.length, -1)

theorem ret2ii {a b c d : Int} (h : (a, c) = (b, d)) : Ending.returned (.tuple #[.int .i64 a, .int .i64 c]) = .returned (.tuple #[.int .i64 b, .int .i64 d]) := by cases h; rfl

set_option maxRecDepth 100000 in
set_option maxHeartbeats 1600000 in
theorem sysCheck_any (sv rv : Value) (sig : List Sy) (rs : List Rl) (w : World) (hs : Sg w sv sig) (hr : RU w rv rs) (hT : Tabs w) :
    Calls Tryz.prog 27 #[.agg #[sv, rv]] w fun e w' => e = .returned (.tuple #[.int .i64 (sysE sig rs).1, .int .i64 (sysE sig rs).2]) ∧ Below w.heap.size w w' := by
  obtain ⟨so, sc, rfl, hso, hsc, _⟩ := Row.flat hs
  obtain ⟨ro, rc, rfl, hro, hrc, _⟩ := Row.flat hr
  unfold maxLen at hsc hrc
  have HS := hid hs
  have HR := hid hr
  have HT := hid hT
  clear hs hr hT
  obtain ⟨w0, hw0⟩ : ∃ X, X = w.alloc (.cells #[.slice so sig.length sc, .slice ro rs.length rc] 32) := ⟨_, rfl⟩
  have C0 : Hid (Below w.heap.size w w0) := by rw [hw0]; exact below_alloc _
  have HC : Hid (∀ W, Below w0.heap.size w0 W → W.cell? ⟨w.heap.size, 0, none⟩ = some (.slice so sig.length sc) ∧ W.cell? ⟨w.heap.size, 1, none⟩ = some (.slice ro rs.length rc)) := fun W hW => by
    have hk := Kp.of_below hW
    rw [hw0] at hk
    exact ⟨hk.cell _ _ (cell_new rfl), hk.cell _ _ (cell_new rfl)⟩
  obtain ⟨E, hE⟩ : ∃ E, E = sysE sig rs := ⟨_, rfl⟩
  have HE := hid hE
  rw [← hE]
  clear hE
  unfold sysE at HE
  obtain ⟨x0, x1⟩ := HC.out w0 (Below.refl _ _)
  go_enter Tryz.func27, Tryz.ntmps27
  go_wp2_with fail
  rw [← hw0]
  clear hw0
  refine (checkAhead_any _ ro rs.length rc sig w0 (HS.out.kp (Kp.of_below C0.out)) (HT.out.below C0.out) (by omega)).mono ?_
  rintro e w1 ⟨rfl, hb1⟩
  have C1 := hid (below_step C0.out hb1)
  have D1 := hid hb1
  clear hb1 x0 x1
  by_cases hea : aheadE sig rs.length = 0
  · rw [hea]
    rw [if_pos hea] at HE
    clear hea
    obtain ⟨x0, x1⟩ := HC.out w1 D1.out
    go_wp2
    go_loopw [16] (fun iv wr => ∃ k : Nat, k ≤ rs.length ∧ iv = .int .i64 k ∧ rulesGo sig 0 rs = rulesGo sig k (rs.drop k) ∧ Below w0.heap.size w0 wr) (fun iv _ => rs.length - (intOf iv).toNat)
    case atStart => exact ⟨0, Nat.zero_le _, rfl, rfl, D1.out⟩
    case round =>
      obtain ⟨k, hk, rfl, hgo, hbl⟩ := hrel
      have HG := hid hgo
      have HB := hid hbl
      have CB := hid (below_step C0.out hbl)
      obtain ⟨z0, z1⟩ := HC.out wr hbl
      clear hgo hbl x0 x1
      by_cases hlt : k < rs.length
      · obtain ⟨g, off, l, r, a1, c1, a2, c2, rfl, hm, hc0, hc1, hi1, hi2, hl1, hl2⟩ := (HR.out.kp (Kp.of_below CB.out)).at hlt
        have HD : Hid (E = if ruleE sig (l, r) = 0 then rulesGo sig (k + 1) (rs.drop (k + 1)) else (ruleE sig (l, r), (k : Int))) := by
          show _ = _
          rw [HE.out, HG.out, drop_get hm]
          rfl
        have HI1 := hid hi1
        have HI2 := hid hi2
        have hgw : g < wr.heap.size := World.block_lt_of_cell? _ _ hc0
        have y0 := cell_old (o := .cells #[.slice a1 l.length c1, .slice a2 r.length c2] 38) z0
        obtain ⟨W, hW⟩ : ∃ X, X = wr.alloc (.cells #[.slice a1 l.length c1, .slice a2 r.length c2] 38) := ⟨_, rfl⟩
        have BW : Hid (Below wr.heap.size wr W) := by rw [hW]; exact below_alloc _
        clear hm hi1 hi2
        go_wp2_with fail
        rw [← hW]
        rw [← hW] at y0
        clear hW
        have CW := hid (below_step CB.out BW.out)
        refine (checkRule_any _ _ _ sig l r W (HS.out.kp (Kp.of_below CW.out)) (HI1.out.kp (Kp.of_below BW.out)) (HI2.out.kp (Kp.of_below BW.out)) (HT.out.below CW.out) hl1 hl2).mono ?_
        rintro e w3 ⟨rfl, hb3⟩
        have HB3 := hid (below_step HB.out (below_step BW.out hb3))
        clear hb3 y0 z0 z1 hc0 hc1
        by_cases her : ruleE sig (l, r) = 0
        · rw [her]
          have HN : Hid (rulesGo sig 0 rs = rulesGo sig (k + 1) (rs.drop (k + 1))) := by
            show _ = _
            rw [← HE.out, HD.out, if_pos her]
          clear her HD
          go_wp2
          go_roundw
          case rel => exact ⟨k + 1, hlt, by go_num, HN.out, HB3.out⟩
          case measure => simp only [intOf]; omega
        · have HN : Hid (E = (ruleE sig (l, r), (k : Int))) := by
            show _ = _
            rw [HD.out, if_neg her]
          generalize ruleE sig (l, r) = T at her HN ⊢
          have hne : (T != 0) = true := by simpa using her
          clear HD her
          go_wp2
          go_ret2
          exact ⟨ret2ii (a := T) (c := (k : Int)) (by rw [HN.out]), below_step C0.out HB3.out⟩
      · have HN : Hid (E = (0, 0)) := by
          show _ = _
          rw [HE.out, HG.out, List.drop_of_length_le (by omega)]
          rfl
        clear z0 z1
        go_wp2
        go_ret2
        exact ⟨ret2ii (a := 0) (c := 0) (by rw [HN.out]), CB.out⟩
  · rw [if_neg hea] at HE
    generalize aheadE sig rs.length = T at hea HE ⊢
    have hne : (T != 0) = true := by simpa using hea
    go_wp2
    go_ret2
    exact ⟨ret2ii (a := T) (c := -1) (by rw [HE.out]), C1.out⟩

/-- Whether a system is right. -/
def sysB (sig : List Sy) (rs : List Rl) : Bool := decide ((sysE sig rs).1 = 0)

set_option maxRecDepth 100000 in
theorem isRight_any (sv rv : Value) (sig : List Sy) (rs : List Rl) (w : World) (hs : Sg w sv sig) (hr : RU w rv rs) (hT : Tabs w) :
    Calls Tryz.prog 83 #[.agg #[sv, rv]] w fun e w' => e = .returned (.bool (sysB sig rs)) ∧ Below w.heap.size w w' := by
  obtain ⟨so, sc, rfl, hso, hsc, _⟩ := Row.flat hs
  obtain ⟨ro, rc, rfl, hro, hrc, _⟩ := Row.flat hr
  have HS := hid hs
  have HR := hid hr
  have HT := hid hT
  clear hs hr hT
  obtain ⟨w0, hw0⟩ : ∃ X, X = w.alloc (.cells #[.slice so sig.length sc, .slice ro rs.length rc] 32) := ⟨_, rfl⟩
  have C0 : Hid (Below w.heap.size w w0) := by rw [hw0]; exact below_alloc _
  go_enter Tryz.func83, Tryz.ntmps83
  go_wp2_with fail
  rw [← hw0]
  clear hw0
  refine (sysCheck_any _ _ sig rs w0 (HS.out.kp (Kp.of_below C0.out)) (HR.out.kp (Kp.of_below C0.out)) (HT.out.below C0.out)).mono ?_
  rintro e w1 ⟨rfl, hb1⟩
  have C1 := hid (below_step C0.out hb1)
  clear hb1
  obtain ⟨E, hE⟩ : ∃ E, E = sysE sig rs := ⟨_, rfl⟩
  have HB : Hid (sysB sig rs = decide (E.1 = 0)) := by rw [hE]; rfl
  rw [← hE]
  clear hE
  by_cases h0 : E.1 = 0
  · have hb : (E.1 == 0) = true := by rw [beq_iff_eq]; exact h0
    have HB2 : Hid (sysB sig rs = true) := by show _ = _; rw [HB.out, decide_eq_true h0]
    clear h0 HB
    go_wp2
    go_ret
    exact ⟨ret1b HB2.out.symm, C1.out⟩
  · have hb : (E.1 == 0) = false := by rw [beq_eq_false_iff_ne]; exact h0
    have HB2 : Hid (sysB sig rs = false) := by show _ = _; rw [HB.out, decide_eq_false h0]
    clear h0 HB
    go_wp2
    go_ret
    exact ⟨ret1b HB2.out.symm, C1.out⟩

end Go.Proofs.YtoapgbaibpkckaaGreatDoor

/- shapeOf of package system walked. -/
namespace Go.Proofs.YtoapgbaibpkckaaGreatDoor
open Go.RowKit Go.Maps Go.BigFrame

theorem results_one {P : Program} {fn : Func} {w : World} {tmps : Array Value} {t : Tmp} {ty : TypeId} {ad : Addr} {v : Value} (h : fn.results = #[.cell t ty]) (ht : tmps.getD t undef = .pointer (some ad)) (hl : (loadVar ty ad).run P w = .ok v w) : (results fn tmps).run P w = .ok v w := by
  have ht2 : tmps[t]?.getD undef = .pointer (some ad) := by simpa using ht
  simp [results, h, ht2, hl, asAddr]

theorem info_rule : (Tryz.prog.info? 38).map (fun i => (i.zero, i.size, i.bytes)) = some (some (.agg #[.slice none 0 0, .slice none 0 0]), 2, 48) := by kernel_rfl
theorem under_rulesU : Tryz.prog.underlying 30 = some (.slice 38) := by kernel_rfl

theorem is_one {w : World} {v : Value} {xs : List Int} (h : Is w v xs) : v.oneCell' = true := by
  obtain ⟨_, _, rfl, _⟩ := h
  rfl

end Go.Proofs.YtoapgbaibpkckaaGreatDoor

/- The look for a partner: IndexFunc at rules, with arePaired's closure, walked. -/
namespace Go.Proofs.YtoapgbaibpkckaaGreatDoor
open Go.RowKit Go.Maps Go.BigFrame

/-- Whether two rules are variants, of a signature. -/
def vrP (sig : List Sy) (x y : Rl) : Bool := termsB sig [x.1, x.2, y.1, y.2] && decide (canL [x.1, x.2] = canL [y.1, y.2])

end Go.Proofs.YtoapgbaibpkckaaGreatDoor

/- Defined of package system walked. -/
namespace Go.Proofs.YtoapgbaibpkckaaGreatDoor
open Go.RowKit Go.Maps Go.BigFrame

-- function 85
def Tryz.compLay_ren : Go.Shelf.Ren := ⟨fun | 20 => 85 | n => n, fun | 22 => 36 | 3 => 3 | 4 => 4 | 0 => 0 | n => n, fun | n => n⟩
theorem Tryz.compLay : Go.Proofs.Lays2.n20 Tryz.prog Tryz.compLay_ren := {
  mixed := by kernel_rfl
  f20 := Tryz.func85.trans (congrArg some (by kernel_rfl))
  t0 := Tryz.underlying0
  a0 := Tryz.isAgg0
  z0 := Tryz.sizeOf0
  v0 := Tryz.zeroValue0
  t3 := Tryz.underlying3
  a3 := Tryz.isAgg3
  z3 := Tryz.sizeOf3
  v3 := Tryz.zeroValue3
  t4 := Tryz.underlying4
  a4 := Tryz.isAgg4
  z4 := Tryz.sizeOf4
  v4 := Tryz.zeroValue4
  t22 := Tryz.underlying36
  a22 := Tryz.isAgg36
  z22 := Tryz.sizeOf36
  v22 := Tryz.zeroValue36
  i3 := by kernel_rfl }

theorem rules_right {sig : List Sy} : ∀ (rs : List Rl) (k : Nat), (rulesGo sig k rs).1 = 0 → ∀ r ∈ rs, ruleE sig r = 0
  | [], _, _, r, hr => by simp at hr
  | a :: rs, k, h, r, hr => by
    unfold rulesGo at h
    by_cases ha : ruleE sig a = 0
    · rw [if_pos ha] at h
      rcases List.mem_cons.1 hr with rfl | hr
      · exact ha
      · exact rules_right rs (k + 1) h r hr
    · rw [if_neg ha] at h
      exact absurd h ha

theorem sys_right {sig : List Sy} {rs : List Rl} (h : sysB sig rs = true) : aheadE sig rs.length = 0 ∧ ∀ r ∈ rs, ruleE sig r = 0 := by
  have h1 : (sysE sig rs).1 = 0 := by simpa [sysB] using h
  unfold sysE at h1
  by_cases ha : aheadE sig rs.length = 0
  · rw [if_pos ha] at h1
    exact ⟨ha, rules_right rs 0 h1⟩
  · rw [if_neg ha] at h1
    exact absurd h1 ha

theorem rule_parts {sig : List Sy} {r : Rl} (h : ruleE sig r = 0) : termE sig r.1 = 0 ∧ termE sig r.2 = 0 ∧ r.1.length ≤ 512 ∧ r.2.length ≤ 512 ∧ (0 : Int) ≤ (r.1[0]?).getD 0 ∧ freeB r.1 r.2 = false := by
  unfold ruleE at h
  by_cases h1 : termE sig r.1 = 0
  · rw [if_pos h1] at h
    by_cases h2 : termE sig r.2 = 0
    · rw [if_pos h2] at h
      by_cases h3 : 512 < r.1.length ∨ 512 < r.2.length
      · rw [if_pos h3] at h; omega
      · rw [if_neg h3] at h
        by_cases h4 : (r.1[0]?).getD 0 < 0
        · rw [if_pos h4] at h; omega
        · rw [if_neg h4] at h
          cases h5 : freeB r.1 r.2 with
          | true => rw [h5] at h; simp at h
          | false => exact ⟨h1, h2, by omega, by omega, by omega, rfl⟩
    · rw [if_neg h2] at h
      exact absurd h h2
  · rw [if_neg h1] at h
    exact absurd h h1

theorem ahead_parts {sig : List Sy} {n : Nat} (h : aheadE sig n = 0) : sigE sig = 0 ∧ sig.length ≤ 64 ∧ (sig.any fun s => sufB s.1) = false ∧ n ≤ 64 := by
  unfold aheadE at h
  by_cases h1 : sigE sig = 0
  · rw [if_pos h1] at h
    by_cases h2 : 64 < sig.length
    · rw [if_pos h2] at h; omega
    · rw [if_neg h2] at h
      cases h3 : (sig.any fun s => sufB s.1) with
      | true => rw [h3] at h; simp at h
      | false =>
        rw [h3] at h
        by_cases h4 : 64 < n
        · simp [h4] at h
        · exact ⟨h1, by omega, rfl, by omega⟩
  · rw [if_neg h1] at h
    exact absurd h h1

/-- The codes at the roots of left sides. -/
def rootsL (rs : List Rl) : List Int := rs.map fun r => (r.1[0]?).getD 0

def definedL (sig : List Sy) (rs : List Rl) : List Int := if sysB sig rs then Lib.compact (sortI (rootsL rs)) else []

end Go.Proofs.YtoapgbaibpkckaaGreatDoor

/- Pairing rules, plainly. -/
namespace Go.Proofs.YtoapgbaibpkckaaGreatDoor
open Go.RowKit Go.Maps

/-- Whether each rule finds a partner of its own, one after the other. -/
def pairB (sig : List Sy) : List Rl → List Rl → Bool
  | [], _ => true
  | x :: a, B => if B.any (vrP sig x) then pairB sig a (B.eraseP (vrP sig x)) else false

end Go.Proofs.YtoapgbaibpkckaaGreatDoor

/- arePaired of package system walked. -/
namespace Go.Proofs.YtoapgbaibpkckaaGreatDoor
open Go.RowKit Go.Maps Go.BigFrame

theorem cell_block {w w' : World} {g : Nat} (h : w'.heap[g]? = w.heap[g]?) (k : Nat) : w'.cell? ⟨g, k, none⟩ = w.cell? ⟨g, k, none⟩ := by
  simp only [World.cell?, h]

end Go.Proofs.YtoapgbaibpkckaaGreatDoor

/- Same of package system walked. -/
namespace Go.Proofs.YtoapgbaibpkckaaGreatDoor
open Go.RowKit Go.Maps Go.BigFrame

def sameB (s : List Sy) (a : List Rl) (t : List Sy) (b : List Rl) : Bool := sysB s a && sysB t b && decide (s = t) && decide (a.length = b.length) && pairB s a b

end Go.Proofs.YtoapgbaibpkckaaGreatDoor

/- The document's Vars walked. -/
namespace Go.Proofs.YtoapgbaibpkckaaGreatDoor
open Go.RowKit Go.Maps Go.BigFrame

theorem mem_take_next {m : List Int} {k : Nat} {x c : Int} (h : m[k]? = some x) : decide (c ∈ m.take (k + 1)) = (decide (c ∈ m.take k) || decide (x = c)) := by
  rw [take_get h]
  by_cases h1 : c ∈ m.take k
  · simp [h1]
  · by_cases h2 : x = c
    · simp [h2]
    · have h3 : ¬ c = x := fun e => h2 e.symm
      simp [h1, h2, h3]

set_option maxRecDepth 100000 in
set_option maxHeartbeats 1600000 in
theorem refVars_any (v : Value) (t : List Int) (w : World) (h : Is w v t) (hb : t.length * 8 ≤ 140737488355328) :
    Calls Tryz.prog 88 #[v] w fun e w' => ∃ v', e = .returned v' ∧ OwI w' w.heap.size v' (varsL t) ∧ Below w.heap.size w w' := by
  obtain ⟨ao, cap, rfl, hao, hca, q0⟩ := Row.flat h
  unfold maxLen at hca
  have HT := hid h
  clear h q0
  go_enter Tryz.func88, Tryz.ntmps88
  go_wp2
  go_loopw [3, 4] (fun x iv wr => ∃ (i : Nat) (m : List Int), i ≤ t.length ∧ iv = .int .i64 i ∧ metA [] t = metA m (t.drop i) ∧ m.length ≤ i ∧ ZI m ∧ OwI wr w.heap.size x (m.map fun c => -1 - c) ∧ Below w.heap.size w wr) (fun _ iv _ => t.length - (intOf iv).toNat)
  case atStart => exact ⟨0, [], Nat.zero_le _, rfl, rfl, Nat.le_refl _, fun k x hk => (by simp at hk), nilI _ _, Below.refl _ _⟩
  case round =>
    obtain ⟨i, m, hi, rfl, hme, hml, hzm, how, hbl⟩ := hrel
    obtain ⟨bo, bc, hxv, hbc1, hbc2⟩ := how.shape
    rw [List.length_map] at hxv hbc1
    subst hxv
    unfold maxLen at hbc2
    have HMe := hid hme
    have HOw := hid how
    have HB := hid hbl
    have HZ := hid hzm
    clear hme how hzm
    by_cases hlt : i < t.length
    · obtain ⟨g, off, c, rfl, hx1, hx2, hx3, hx4⟩ := (HT.out.kp (Kp.of_below hbl)).at hlt
      have HD := hid (drop_get hx1)
      clear hx1 hbl
      go_wp2
      go_loopw [5, 6] (fun bv kv ws => ∃ (k : Nat) (B : Bool), k ≤ m.length ∧ kv = .int .i64 k ∧ bv = .bool B ∧ B = (decide (0 ≤ c) || decide (c ∈ m.take k)) ∧ ∃ n, ws = wr.drewN n) (fun _ kv _ => m.length - (intOf kv).toNat)
      case atStart => exact ⟨0, decide (0 ≤ c), Nat.zero_le _, rfl, rfl, by simp, 0, rfl⟩
      case round =>
        obtain ⟨k, B, hk, rfl, rfl, hB, n, rfl⟩ := hrel
        have HBb := hid hB
        clear hB
        by_cases hkl : k < m.length
        · obtain ⟨x, hx⟩ : ∃ x, m[k]? = some x := ⟨_, List.getElem?_eq_getElem hkl⟩
          have hxz := HZ.out k x hx
          obtain ⟨g2, off2, y, rfl, hy1, hy2, hy3, hy4⟩ := HOw.out.is.at (k := k) (by rw [List.length_map]; exact hkl)
          rw [List.getElem?_map, hx] at hy1
          simp only [Option.map_some, Option.some.injEq] at hy1
          have HN := hid (mem_take_next (c := c) hx)
          clear hx
          cases B with
          | true =>
            have HB2 : Hid (true = (decide (0 ≤ c) || decide (c ∈ m.take (k + 1)))) := by
              show _ = _
              rw [HN.out, ← Bool.or_assoc, ← HBb.out]
              rfl
            clear hy1 hy2
            go_wp2
            go_quiet (fail)
            go_wp2
            go_roundw
            case rel => exact ⟨k + 1, true, by omega, by go_num, rfl, HB2.out, _, rfl⟩
            case measure => simp [intOf]; omega
          | false =>
            have hwc : IntKind.i64.wrap (-1 - c) = -1 - c := IntWalk.i64_in _ ⟨by omega, by omega⟩
            by_cases hxc : x = c
            · have HB2 : Hid (true = (decide (0 ≤ c) || decide (c ∈ m.take (k + 1)))) := by
                show _ = _
                rw [HN.out, ← Bool.or_assoc, ← HBb.out, decide_eq_true hxc]
                rfl
              have hyc : (y == -1 - c) = true := by rw [beq_iff_eq]; omega
              clear hy1 hxc
              go_wp2
              go_quiet (fail)
              go_wp2
              go_roundw
              case rel => exact ⟨k + 1, true, by omega, by go_num, rfl, HB2.out, _, rfl⟩
              case measure => simp [intOf]; omega
            · have HB2 : Hid (false = (decide (0 ≤ c) || decide (c ∈ m.take (k + 1)))) := by
                show _ = _
                rw [HN.out, ← Bool.or_assoc, ← HBb.out, decide_eq_false hxc]
                rfl
              have hyc : (y == -1 - c) = false := by rw [beq_eq_false_iff_ne]; omega
              clear hy1 hxc
              go_wp2
              go_quiet (fail)
              go_wp2
              go_roundw
              case rel => exact ⟨k + 1, false, by omega, by go_num, rfl, HB2.out, _, rfl⟩
              case measure => simp [intOf]; omega
        · have hke : k = m.length := by omega
          have HBf : Hid (B = (decide (0 ≤ c) || decide (c ∈ m))) := by show _ = _; rw [HBb.out, hke, List.take_length]
          have HBn := hid (below_drewN HB.out n)
          have HOn := hid (HOw.out.later (below_drewN (Below.refl _ _) n))
          clear HBb
          cases B with
          | true =>
            have HN : Hid (metA [] t = metA m (t.drop (i + 1))) := by
              show _ = _
              rw [HMe.out, HD.out, metA, if_pos]
              have := HBf.out
              simp only [Bool.true_eq, Bool.or_eq_true, decide_eq_true_eq] at this
              exact this
            go_wp2
            go_roundw
            case rel => exact ⟨i + 1, m, by omega, by go_num, HN.out, by omega, HZ.out, HOn.out, HBn.out⟩
            case measure => simp [intOf]; omega
          | false =>
            have hno : ¬ (0 ≤ c ∨ c ∈ m) := by
              have := HBf.out
              intro h9
              rw [eq_comm, Bool.or_eq_false_iff, decide_eq_false_iff_not, decide_eq_false_iff_not] at this
              rcases h9 with h9 | h9
              · exact this.1 h9
              · exact this.2 h9
            have HN : Hid (metA [] t = metA (m ++ [c]) (t.drop (i + 1))) := by
              show _ = _
              rw [HMe.out, HD.out, metA, if_neg hno]
            have hwc : IntKind.i64.wrap (-1 - c) = -1 - c := IntWalk.i64_in _ ⟨by omega, by omega⟩
            obtain ⟨v6, w6, hr6, ho6, hg6, _⟩ := join_one 36 (c := -1 - c) HOn.out (by omega) (by omega) HBn.out.size (by rw [List.length_map]; omega)
            have hb6 := (below_step HBn.out (below_alloc _)).grown hg6 (below_step HBn.out (below_alloc _)).size (fun j hj => own_blk HOn.out.2 hj)
            have HR6 := hid hr6
            have HO6 : Hid (OwI w6 w.heap.size v6 ((m ++ [c]).map fun c => -1 - c)) := by
              rw [List.map_append]
              exact ho6
            have HB6 := hid hb6
            have HZ2 : Hid (ZI (m ++ [c])) := fun k y hk => by
              by_cases hkl : k < m.length
              · rw [List.getElem?_append_left hkl] at hk
                exact HZ.out k y hk
              · rw [List.getElem?_append_right (by omega)] at hk
                have : y = c := by
                  have h9 := List.mem_of_getElem? hk
                  simpa using h9
                omega
            clear hr6 ho6 hg6 hb6 hno
            go_wp2_with (first
              | (at_builtin; refine wpList_append_run rfl _ _ _ rfl _ _ rfl rfl HR6.out ?_))
            go_roundw
            case rel => exact ⟨i + 1, m ++ [c], by omega, by go_num, HN.out, by rw [List.length_append, List.length_singleton]; omega, HZ2.out, HO6.out, HB6.out⟩
            case measure => simp [intOf]; omega
    · have HF : Hid (varsL t = m.map fun c => -1 - c) := by show _ = _; unfold varsL; rw [HMe.out, List.drop_of_length_le (by omega)]; rfl
      go_wp2
      go_ret
      exact ⟨_, rfl, by rw [HF.out]; exact HOw.out, HB.out⟩

end Go.Proofs.YtoapgbaibpkckaaGreatDoor

/- The document's Plain, has, rule, Check and Right of layer 7 walked. -/
namespace Go.Proofs.YtoapgbaibpkckaaGreatDoor
open Go.RowKit Go.Maps Go.BigFrame

theorem suf_iff (s : ByteArray) : sufB s = true ↔ 0 < s.size ∧ lastB s = 35 := by
  have hl : s.data.toList.length = s.size := (Lib.size_eq s).symm
  constructor
  · intro h
    change Lib.hasSuffix s.data.toList [35] = true at h
    unfold Lib.hasSuffix at h
    rw [List.isSuffixOf_iff_suffix] at h
    obtain ⟨l, e⟩ := h
    have hn := congrArg List.length e
    simp only [List.length_append, List.length_cons, List.length_nil] at hn
    refine ⟨by omega, ?_⟩
    unfold lastB
    rw [← e, show s.size - 1 = l.length by omega]
    simp
  · rintro ⟨h0, h⟩
    show Lib.hasSuffix s.data.toList [35] = true
    unfold Lib.hasSuffix
    rw [List.isSuffixOf_iff_suffix]
    have hx : s.data.toList.drop (s.size - 1) = [35] := by
      unfold lastB at h
      rw [List.drop_eq_getElem_cons (by omega), List.drop_of_length_le (by omega)]
      rw [List.getD_eq_getElem?_getD, List.getElem?_eq_getElem (by omega), Option.getD_some] at h
      rw [h]
    exact ⟨s.data.toList.take (s.size - 1), by rw [← hx, List.take_append_drop]⟩

theorem mark_suf {s : ByteArray} (h : symB s = true) : markB s = sufB s := by
  rw [Bool.eq_iff_iff]
  constructor
  · intro hm
    unfold markB at hm
    rw [Bool.and_eq_true, Bool.and_eq_true, decide_eq_true_eq, decide_eq_true_eq] at hm
    exact (suf_iff s).2 ⟨hm.1, hm.2.1⟩
  · intro hs
    obtain ⟨h0, h1⟩ := (suf_iff s).1 hs
    unfold symB at h
    rw [bare_hash s h0 h1] at h
    unfold markB
    rw [decide_eq_true h0, decide_eq_true h1, h]
    rfl

theorem sigGo_names (sig : List Sy) : ∀ (r : List Sy) (k : Nat), sigGo sig k r = 0 → ∀ s ∈ r, symB s.1 = true
  | [], _, _, s, hs => by simp at hs
  | a :: r, k, h, s, hs => by
    unfold sigGo at h
    cases ha : symB a.1 with
    | false => rw [ha] at h; simp at h
    | true =>
      rw [ha, if_pos rfl] at h
      split at h
      · omega
      · split at h
        · omega
        · rcases List.mem_cons.1 hs with rfl | hs
          · exact ha
          · exact sigGo_names sig r (k + 1) h s hs

theorem sig_marks {sig : List Sy} (h : sigE sig = 0) : (sig.any fun s => markB s.1) = (sig.any fun s => sufB s.1) := by
  unfold sigE at h
  split at h
  · omega
  · have hn := sigGo_names sig sig 0 h
    rw [Bool.eq_iff_iff, List.any_eq_true, List.any_eq_true]
    constructor
    · rintro ⟨s, hs, hm⟩
      exact ⟨s, hs, by rw [← mark_suf (hn s hs)]; exact hm⟩
    · rintro ⟨s, hs, hm⟩
      exact ⟨s, hs, by rw [mark_suf (hn s hs)]; exact hm⟩

def plainE (sig : List Sy) : Int := if sigE sig = 0 then (if 64 < sig.length then 37 else if (sig.any fun s => sufB s.1) then 34 else 0) else sigE sig

set_option maxRecDepth 100000 in
set_option maxHeartbeats 800000 in
theorem refPlain_any (sv : Value) (sig : List Sy) (w : World) (hs : Sg w sv sig) :
    Calls Tryz.prog 29 #[sv] w fun e w' => e = .returned (.int .i64 (plainE sig)) ∧ Below w.heap.size w w' := by
  obtain ⟨so, sc, rfl, hso, hsc, _⟩ := Row.flat hs
  unfold maxLen at hsc
  have HS := hid hs
  clear hs
  go_enter Tryz.func29, Tryz.ntmps29
  go_wp2_with fail
  refine (refCheckSig_any _ sig w HS.out).mono ?_
  rintro e w1 ⟨rfl, hb1⟩
  have C1 := hid hb1
  clear hb1
  by_cases he : sigE sig = 0
  · rw [he]
    have HMk := hid (sig_marks he)
    by_cases h64 : 64 < sig.length
    · have HF : Hid (plainE sig = 37) := by show _ = _; unfold plainE; rw [if_pos he, if_pos h64]
      have hd : decide ((64 : Int) < (sig.length : Int)) = true := by simpa using (show (64 : Int) < (sig.length : Int) by omega)
      clear he
      go_wp2
      go_ret
      exact ⟨ret1i HF.out.symm, C1.out⟩
    · have HF : Hid (plainE sig = if (sig.any fun s => markB s.1) then 34 else 0) := by show _ = _; unfold plainE; rw [if_pos he, if_neg h64, HMk.out]
      have hd : decide ((64 : Int) < (sig.length : Int)) = false := by simpa using (show ¬ (64 : Int) < (sig.length : Int) by omega)
      clear he
      go_wp2
      go_loopw [4] (fun iv wr => ∃ k : Nat, k ≤ sig.length ∧ iv = .int .i64 k ∧ (sig.take k).any (fun s => markB s.1) = false ∧ Below w.heap.size w wr) (fun iv _ => sig.length - (intOf iv).toNat)
      case atStart => exact ⟨0, Nat.zero_le _, rfl, by simp, C1.out⟩
      case round =>
        obtain ⟨k, hk, rfl, hno, hbl⟩ := hrel
        have HNo := hid hno
        have HB := hid hbl
        clear hno
        by_cases hlt : k < sig.length
        · obtain ⟨g, off, s, a, rfl, hm, hc0, hc1, ha1, ha2, hs3⟩ := (HS.out.kp (Kp.of_below hbl)).at hlt
          have HM := hid hm
          clear hm hbl
          go_wp2_with fail
          refine (refMarked_any s wr hs3).mono ?_
          rintro e w2 ⟨rfl, hb2⟩
          have HB2 := hid (below_step HB.out hb2)
          clear hb2 hc0 hc1
          cases hmk : markB s with
          | true =>
            have HF2 : Hid (plainE sig = 34) := by
              show _ = _
              rw [HF.out, if_pos (List.any_eq_true.2 ⟨_, List.mem_of_getElem? HM.out, hmk⟩)]
            clear hmk
            go_wp2
            go_ret
            exact ⟨ret1i HF2.out.symm, HB2.out⟩
          | false =>
            have HF2 : Hid ((sig.take (k + 1)).any (fun s => markB s.1) = false) := by
              show _ = _
              rw [take_get HM.out, List.any_append, HNo.out]
              simp [hmk]
            clear hmk
            go_wp2
            go_roundw
            case rel => exact ⟨k + 1, by omega, by go_num, HF2.out, HB2.out⟩
            case measure => simp only [intOf]; omega
        · have HF2 : Hid (plainE sig = 0) := by
            have h9 := HNo.out
            rw [List.take_of_length_le (by omega)] at h9
            show _ = _
            rw [HF.out, h9]
            rfl
          go_wp2
          go_ret
          exact ⟨ret1i HF2.out.symm, HB.out⟩
  · have HF : Hid (plainE sig = sigE sig) := by show _ = _; unfold plainE; rw [if_neg he]
    generalize sigE sig = E at he HF ⊢
    have hne : (E != 0) = true := by simpa using he
    go_wp2
    go_ret
    exact ⟨ret1i HF.out.symm, C1.out⟩

set_option maxRecDepth 100000 in
set_option maxHeartbeats 400000 in
theorem refHas_any (v : Value) (xs : List Int) (n : Int) (w : World) (h : Is w v xs) :
    Calls Tryz.prog 89 #[v, .int .i64 n] w fun e w' => e = .returned (.bool (decide (n ∈ xs))) ∧ w' = w := by
  obtain ⟨ao, cap, rfl, hao, hca, _⟩ := Row.flat h
  unfold maxLen at hca
  have HV := hid h
  clear h
  go_enter Tryz.func89, Tryz.ntmps89
  go_wp2
  go_loopw [5] (fun iv wr => ∃ k : Nat, k ≤ xs.length ∧ iv = .int .i64 k ∧ n ∉ xs.take k ∧ wr = w) (fun iv _ => xs.length - (intOf iv).toNat)
  case atStart => exact ⟨0, Nat.zero_le _, rfl, by simp, rfl⟩
  case round =>
    obtain ⟨k, hk, rfl, hno, hw⟩ := hrel
    have hw8 := hw.symm
    subst hw8
    have HNo := hid hno
    clear hw hno
    by_cases hlt : k < xs.length
    · obtain ⟨g, off, x, rfl, hx1, hx2, _, _⟩ := HV.out.at hlt
      have HX := hid hx1
      clear hx1
      by_cases hxn : x = n
      · have hb : (x == n) = true := by rw [beq_iff_eq]; exact hxn
        have HF : Hid (decide (n ∈ xs) = true) := by
          show _ = _
          rw [decide_eq_true_eq, ← hxn]
          exact List.mem_of_getElem? HX.out
        clear hxn
        go_wp2
        go_ret
        exact ⟨ret1b HF.out.symm, rfl⟩
      · have hb : (x == n) = false := by rw [beq_eq_false_iff_ne]; exact hxn
        have HF : Hid (n ∉ xs.take (k + 1)) := by
          rw [take_get HX.out]
          intro h9
          rcases List.mem_append.1 h9 with h9 | h9
          · exact HNo.out h9
          · simp at h9
            exact hxn h9.symm
        clear hxn
        go_wp2
        go_roundw
        case rel => exact ⟨k + 1, by omega, by go_num, HF.out, trivial⟩
        case measure => simp only [intOf]; omega
    · have HF : Hid (decide (n ∈ xs) = false) := by
        have h9 := HNo.out
        rw [List.take_of_length_le (by omega)] at h9
        show _ = _
        rw [decide_eq_false_iff_not]
        exact h9
      go_wp2
      go_ret
      exact ⟨ret1b HF.out.symm, rfl⟩

set_option maxRecDepth 100000 in
set_option maxHeartbeats 1600000 in
theorem refRule_any (sv lv rv : Value) (sig : List Sy) (l r : List Int) (w : World) (hs : Sg w sv sig) (hl : Is w lv l) (hr : Is w rv r) (hse : sigE sig = 0) (h1 : l.length * 8 ≤ 140737488351232) (h2 : r.length * 8 ≤ 140737488351232) :
    Calls Tryz.prog 62 #[sv, .agg #[lv, rv]] w fun e w' => e = .returned (.int .i64 (ruleE sig (l, r))) ∧ Below w.heap.size w w' := by
  obtain ⟨a1, c1, e1, _⟩ := hl.flatI
  subst e1
  obtain ⟨a2, c2, e2, _⟩ := hr.flatI
  subst e2
  have HS := hid hs
  have HL := hid hl
  have HR := hid hr
  have HA := hid (sigE_ok hse)
  have HTl : Hid (termE sig l = rowE sig l) := by show _ = _; unfold termE; rw [if_pos hse]
  have HTr : Hid (termE sig r = rowE sig r) := by show _ = _; unfold termE; rw [if_pos hse]
  clear hs hl hr hse
  obtain ⟨w0, hw0⟩ : ∃ X, X = w.alloc (.cells #[.slice a1 l.length c1, .slice a2 r.length c2] 38) := ⟨_, rfl⟩
  have C0 : Hid (Below w.heap.size w w0) := by rw [hw0]; exact below_alloc _
  have HC : Hid (∀ W, Below w0.heap.size w0 W → W.cell? ⟨w.heap.size, 0, none⟩ = some (.slice a1 l.length c1) ∧ W.cell? ⟨w.heap.size, 1, none⟩ = some (.slice a2 r.length c2)) := fun W hW => by
    have hk := Kp.of_below hW
    rw [hw0] at hk
    exact ⟨hk.cell _ _ (cell_new rfl), hk.cell _ _ (cell_new rfl)⟩
  obtain ⟨E, hE⟩ : ∃ E, E = ruleE sig (l, r) := ⟨_, rfl⟩
  have HE := hid hE
  rw [← hE]
  clear hE
  unfold ruleE at HE
  simp only [HTl.out, HTr.out] at HE
  go_enter Tryz.func62, Tryz.ntmps62
  go_wp2_with fail
  rw [← hw0]
  clear hw0
  refine (refTerm_any sv _ sig l w0 (HS.out.kp (Kp.of_below C0.out)) (HL.out.kp (Kp.of_below C0.out)) HA.out h1).mono ?_
  rintro e w1 ⟨rfl, hw1⟩
  have hw8 := hw1.symm
  subst hw8
  clear hw1
  obtain ⟨x0, x1⟩ := HC.out w0 (Below.refl _ _)
  by_cases hel : rowE sig l = 0
  · rw [hel]
    have HEl := hid hel
    rw [if_pos hel] at HE
    clear hel
    go_wp2_with fail
    refine (refTerm_any sv _ sig r w0 (HS.out.kp (Kp.of_below C0.out)) (HR.out.kp (Kp.of_below C0.out)) HA.out h2).mono ?_
    rintro e w1 ⟨rfl, hw1⟩
    have hw8 := hw1.symm
    subst hw8
    clear hw1
    by_cases her : rowE sig r = 0
    · rw [her]
      rw [if_pos her] at HE
      clear her
      have hlp := row_posS HEl.out
      obtain ⟨gl, ol, c, rfl, hc, hcx, _, _⟩ := (HL.out.kp (Kp.of_below C0.out)).at hlp
      rw [hc] at HE
      simp only [Option.getD_some] at HE
      rw [Nat.add_zero] at hcx
      clear hc
      by_cases hb1 : 512 < l.length
      · have hd1 : decide ((512 : Int) < (l.length : Int)) = true := by simpa using (show (512 : Int) < (l.length : Int) by omega)
        rw [if_pos (.inl hb1)] at HE
        go_wp2
        go_ret
        exact ⟨ret1i HE.out.symm, C0.out⟩
      · have hd1 : decide ((512 : Int) < (l.length : Int)) = false := by simpa using (show ¬ (512 : Int) < (l.length : Int) by omega)
        by_cases hb2 : 512 < r.length
        · have hd2 : decide ((512 : Int) < (r.length : Int)) = true := by simpa using (show (512 : Int) < (r.length : Int) by omega)
          rw [if_pos (.inr hb2)] at HE
          go_wp2
          go_ret
          exact ⟨ret1i HE.out.symm, C0.out⟩
        · have hd2 : decide ((512 : Int) < (r.length : Int)) = false := by simpa using (show ¬ (512 : Int) < (r.length : Int) by omega)
          rw [if_neg (by omega)] at HE
          by_cases h0 : c < 0
          · rw [if_pos h0] at HE
            have hd0 : decide (c < 0) = true := by simpa using h0
            go_wp2
            go_ret
            exact ⟨ret1i HE.out.symm, C0.out⟩
          · rw [if_neg h0] at HE
            have hd0 : decide (c < 0) = false := by simpa using h0
            go_wp2_with fail
            refine (refVars_any _ l w0 (HL.out.kp (Kp.of_below C0.out)) (by omega)).mono ?_
            rintro e w2 ⟨v2, rfl, ho2, hb2⟩
            have C2 := hid (below_step C0.out hb2)
            obtain ⟨y0, y1⟩ := HC.out w2 hb2
            have D2 := hid hb2
            have HV2 := hid ho2.is
            clear hb2 ho2 x0 x1 hcx
            go_wp2_with fail
            refine (refVars_any _ r w2 (HR.out.kp (Kp.of_below C2.out)) (by omega)).mono ?_
            rintro e w3 ⟨v3, rfl, ho3, hb3⟩
            have C3 := hid (below_step C2.out hb3)
            have HV23 := hid (HV2.out.kp (Kp.of_below hb3))
            have HV3 := hid ho3.is
            clear hb3 ho3 y0 y1 HV2
            unfold freeB at HE
            generalize varsL l = VL at HV23 HE
            generalize varsL r = VR at HV3 HE
            obtain ⟨ro, rc, hv3, hrc1, hrc2, _⟩ := HV3.out.flatI
            subst hv3
            go_wp2
            go_loopw [8] (fun iv wr => ∃ k : Nat, k ≤ VR.length ∧ iv = .int .i64 k ∧ (VR.take k).any (fun x => !decide (x ∈ VL)) = false ∧ wr = w3) (fun iv _ => VR.length - (intOf iv).toNat)
            case atStart => exact ⟨0, Nat.zero_le _, rfl, by simp, rfl⟩
            case round =>
              obtain ⟨k, hk, rfl, hno, hw⟩ := hrel
              have hw8 := hw.symm
              subst hw8
              have HNo := hid hno
              clear hw hno
              by_cases hlt : k < VR.length
              · obtain ⟨g, off, x, rfl, hx1, hx2, _, _⟩ := HV3.out.at hlt
                have HX := hid hx1
                clear hx1
                go_wp2_with fail
                refine (refHas_any _ VL x w3 HV23.out).mono ?_
                rintro e w4 ⟨rfl, hw4⟩
                have hw8 := hw4.symm
                subst hw8
                clear hw4
                by_cases hin : x ∈ VL
                · rw [decide_eq_true hin]
                  have HF : Hid ((VR.take (k + 1)).any (fun x => !decide (x ∈ VL)) = false) := by
                    show _ = _
                    rw [take_get HX.out, List.any_append, HNo.out]
                    simp [hin]
                  clear hin
                  go_wp2
                  go_roundw
                  case rel => exact ⟨k + 1, by omega, by go_num, HF.out, trivial⟩
                  case measure => simp only [intOf]; omega
                · rw [decide_eq_false hin]
                  have HF : Hid (E = 72) := by
                    show _ = _
                    rw [HE.out, if_pos (List.any_eq_true.2 ⟨x, List.mem_of_getElem? HX.out, by simpa using hin⟩)]
                  clear hin
                  go_wp2
                  go_ret
                  exact ⟨ret1i HF.out.symm, C3.out⟩
              · have HF : Hid (E = 0) := by
                  have h9 := HNo.out
                  rw [List.take_of_length_le (by omega)] at h9
                  show _ = _
                  rw [HE.out, h9]
                  rfl
                go_wp2
                go_ret
                exact ⟨ret1i HF.out.symm, C3.out⟩
    · rw [if_neg her] at HE
      generalize rowE sig r = T at her HE ⊢
      have hne : (T != 0) = true := by simpa using her
      go_wp2
      go_ret
      exact ⟨ret1i HE.out.symm, C0.out⟩
  · rw [if_neg hel] at HE
    generalize rowE sig l = T at hel HE ⊢
    have hne : (T != 0) = true := by simpa using hel
    go_wp2
    go_ret
    exact ⟨ret1i HE.out.symm, C0.out⟩

end Go.Proofs.YtoapgbaibpkckaaGreatDoor
