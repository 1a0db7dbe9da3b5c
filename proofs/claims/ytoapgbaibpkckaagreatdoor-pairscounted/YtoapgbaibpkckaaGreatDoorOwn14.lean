/- Texts of the proof, one behind the other. -/
import Derived.Test.YtoapgbaibpkckaaGreatDoorOwn13
import Derived.Laws.EntriesVeiled
import Derived.Test.YtoapgbaibpkckaaGreatDoorOwn1
import Derived.Test.YtoapgbaibpkckaaGreatDoorOwn4
import Derived.Test.YtoapgbaibpkckaaGreatDoorOwn6
/- meet, exit and entry of package pairs walked; newEstimate; Edge. -/
namespace Go.Proofs.YtoapgbaibpkckaaGreatDoor
open Go.RowKit Go.Maps Go.BigFrame

/-- A row numbered anew. -/
def canR (t : List Int) : List Int := (renG numN [] t).1

theorem first_map {sig : List Sy} {g : Int → Int} : ∀ (t : List Int) (m : Int) (i : Nat), (∀ c ∈ t, codeD sig (g c) = codeD sig c) → firstT sig m i (t.map g) = firstT sig m i t
  | [], _, _, _ => rfl
  | c :: t, m, i, h => by
    rw [List.map_cons, firstT_cons, firstT_cons, h c (by simp)]
    cases codeD sig c with
    | none => rfl
    | some x =>
      simp only
      rw [first_map t (m + x) (i + 1) (fun d hd => h d (by simp [hd]))]

theorem canR_map {t : List Int} : ∃ f : Int → Int, canR t = t.map (reC f) ∧ ∀ c ∈ t, c < 0 → 0 ≤ f (-1 - c) ∧ f (-1 - c) < (t.length : Int) := by
  obtain ⟨h1, h2⟩ := ren_map (renG numN [] t).2 t [] (fun _ _ h => h)
  have hA : Apt (renG numN [] t).2 := apt_ren t [] ⟨fun a b i h => (by cases h), fun p hp => (by cases hp)⟩
  have hl := renG_len t []
  refine ⟨numF (renG numN [] t).2, h1, fun c hc h0 => ?_⟩
  obtain ⟨i, hi⟩ := Option.isSome_iff_exists.1 (h2 c hc h0)
  have := hA.2 _ (lookup_mem hi)
  simp only [numF, hi, Option.getD_some]
  simp only [List.length_nil] at hl
  simp only at this
  omega

theorem canR_right {sig : List Sy} {t : List Int} (h : rowE sig t = 0) (hl : t.length ≤ 1048576) : rowE sig (canR t) = 0 ∧ (canR t).length = t.length ∧ (∀ c ∈ canR t, c < 0 → -1 - c < (t.length : Int)) ∧ (0 ≤ (t[0]?).getD (-1) → (canR t)[0]? = t[0]?) := by
  obtain ⟨f, h1, h2⟩ := canR_map (t := t)
  have hcd := first_codes t 1 0 (by rw [row_first.1 h]; simp)
  have hg : ∀ c ∈ t, codeD sig (reC f c) = codeD sig c := fun c hc => by
    unfold reC
    by_cases h0 : c < 0
    · rw [if_pos h0]
      have h3 := codes_of h hc
      have := h2 c hc h0
      rw [codeD_var (by omega) (by omega), codeD_var (by omega) (by omega)]
    · rw [if_neg h0]
  refine ⟨?_, by rw [h1, List.length_map], fun c hc h0 => ?_, fun h0 => ?_⟩
  · rw [row_first, h1, first_map t 1 0 hg, List.length_map]
    exact row_first.1 h
  · rw [h1] at hc
    obtain ⟨d, hd, rfl⟩ := List.mem_map.1 hc
    unfold reC at h0 ⊢
    by_cases h3 : d < 0
    · rw [if_pos h3]
      have := h2 d hd h3
      omega
    · rw [if_neg h3] at h0
      exact absurd h0 h3
  · rw [h1, List.getElem?_map]
    cases ht : t[0]? with
    | none => rfl
    | some c =>
      rw [ht, Option.getD_some] at h0
      simp only [Option.map_some, Option.some.injEq]
      unfold reC
      rw [if_neg (by omega)]

theorem can_shift {sig : List Sy} {t : List Int} {d : Nat} (h : rowE sig t = 0) (hl : t.length ≤ 512) (hd : d ≤ 512) : okShift (d : Int) (canR t) = true ∧ rowE sig (movL (d : Int) (canR t)) = 0 ∧ (movL (d : Int) (canR t)).length = t.length := by
  obtain ⟨h1, h2, h3, _⟩ := canR_right h (by omega)
  have ho : okShift (d : Int) (canR t) = true := by
    unfold okShift
    rw [List.all_eq_true]
    intro c hc
    by_cases h0 : c < 0
    · have := h3 c hc h0
      have h4 := codes_of h1 hc
      rw [Bool.or_eq_true]
      right
      rw [isVarB_iff]
      omega
    · simp [h0]
  exact ⟨ho, mov_row ho h1, by unfold movL; rw [List.length_map, h2]⟩

open Classical in
/-- Whether two rows can be unified. -/
noncomputable def meetB (ext : List Sy) (a b : List Int) : Bool := decide (twoE ext a b = 0 ∧ Unif ext a b)

theorem two_ne {ext : List Sy} {a b : List Int} (h : twoE ext a b = 0) : a ≠ [] ∧ b ≠ [] := by
  obtain ⟨_, h1, h2⟩ := two_right h
  refine ⟨fun h => ?_, fun h => ?_⟩
  · subst h
    simp [rowE, firstT] at h1
  · subst h
    simp [rowE, firstT] at h2

theorem meet_begin {ext : List Sy} {a b : List Int} (h : beginE a b = false) : meetB ext a b = false := by
  unfold meetB
  rw [decide_eq_false_iff_not]
  rintro ⟨h1, h2⟩
  obtain ⟨h3, h4⟩ := two_ne h1
  unfold beginE at h
  rw [begin_of h2] at h
  simp [h3, h4] at h

set_option maxRecDepth 100000 in
set_option maxHeartbeats 1600000 in
theorem meet_any (ev av bv : Value) (sig : List Sy) (rs : List Rl) (a b : List Int) (w : World) (he : Est w ev sig rs) (ha : Is w av a) (hb : Is w bv b) (hT : Tabs w) (hl : a.length + b.length ≤ 4194304) :
    Calls Tryz.prog 38 #[ev, av, bv] w fun e w' => e = .returned (.bool (meetB (extL sig) a b)) ∧ Below w.heap.size w w' := by
  obtain ⟨so, sc, bd, dv, rfl, hs, hbd, hd⟩ := he
  obtain ⟨w0, hw0⟩ : ∃ X, X = w.alloc (.cells #[.slice so (extL sig).length sc, .int .i64 (sig.length : Int), .func (.func 59) #[] #[.pointer (some ⟨bd, 0, none⟩)]] 69) := ⟨_, rfl⟩
  have C0 : Hid (Below w.heap.size w w0) := by rw [hw0]; exact below_alloc _
  have HC : Hid (∀ W, Below w0.heap.size w0 W → W.cell? ⟨w.heap.size, 0, none⟩ = some (.slice so (extL sig).length sc)) := fun W hW => by
    have hk := Kp.of_below hW
    rw [hw0] at hk
    exact hk.cell _ _ (cell_new rfl)
  have HBe := hid (beginAlike_any av bv a b w0 (ha.kp (Kp.of_below C0.out)) (hb.kp (Kp.of_below C0.out)))
  have HCn := hid fun W (hW : Below w.heap.size w W) => can_any _ av bv (extL sig) a b W (hs.kp (Kp.of_below hW)) (ha.kp (Kp.of_below hW)) (hb.kp (Kp.of_below hW)) (hT.below hW) hl
  obtain ⟨M, hM⟩ : ∃ M, M = meetB (extL sig) a b := ⟨_, rfl⟩
  have HM := hid hM
  have HMb := hid (meet_begin (ext := extL sig) (a := a) (b := b))
  rw [← hM] at HMb ⊢
  clear hM hs ha hb hT hbd hd
  cases hbe : beginE a b
  · rw [hbe] at HBe
    have HF := hid (HMb.out hbe)
    clear hbe
    go_enter Tryz.func38, Tryz.ntmps38
    go_wp2_with fail
    rw [← hw0]
    clear hw0
    refine HBe.out.mono ?_
    rintro e w1 ⟨rfl, hb1⟩
    have B1 := hid (below_step C0.out hb1)
    clear hb1
    go_wp2
    go_ret
    exact ⟨ret1b HF.out.symm, B1.out⟩
  · rw [hbe] at HBe
    clear hbe
    go_enter Tryz.func38, Tryz.ntmps38
    go_wp2_with fail
    rw [← hw0]
    clear hw0
    refine HBe.out.mono ?_
    rintro e w1 ⟨rfl, hb1⟩
    have B1 := hid (below_step C0.out hb1)
    have x0 := HC.out w1 hb1
    have HC1 := hid (HCn.out w1 B1.out)
    clear hb1
    go_wp2_with fail
    refine HC1.out.mono ?_
    rintro e w2 ⟨rfl, hb2⟩
    have B2 := hid (below_step B1.out hb2)
    clear hb2
    go_wp2
    go_ret
    exact ⟨ret1b (by rw [HM.out]; rfl), B2.out⟩

/-- A pair's right side's CAP, and its left side with variables of its own; nothing, if it may not stand there. -/
def exitL (sig : List Sy) (rs : List Rl) (t : List Int) : List Int := if standB sig t then capL (extL sig) (definedL sig rs) t else []

def entryL (sig : List Sy) (t : List Int) : List Int := if standB sig t then movL 512 (canR t) else []

theorem stand_parts {sig : List Sy} {t : List Int} (h : standB sig t = true) : t.length ≤ 512 ∧ sigE (extL sig) = 0 ∧ rowE (extL sig) t = 0 ∧ (0 : Int) ≤ (t[0]?).getD (-1) := by
  unfold standB at h
  rw [decide_eq_true_eq] at h
  obtain ⟨h1, h2⟩ := term_parts h.2.1
  exact ⟨h.1, h1, h2, by omega⟩

set_option maxRecDepth 100000 in
set_option maxHeartbeats 1600000 in
theorem exit_any (ev lv rv : Value) (sig : List Sy) (rs : List Rl) (a b : List Int) (w : World) (he : Est w ev sig rs) (ha : Is w lv a) (hb : Is w rv b) (hT : Tabs w) (hl : b.length * 8 ≤ 140737488351232) (hdn : (definedL sig rs).length ≤ 64) :
    Calls Tryz.prog 39 #[ev, .agg #[lv, rv]] w fun e w' => ∃ v', e = .returned v' ∧ OwI w' w.heap.size v' (exitL sig rs b) ∧ Below w.heap.size w w' := by
  have HE := hid he
  obtain ⟨so, sc, bd, dv, rfl, _, _, _⟩ := he
  obtain ⟨aa, ac, rfl, _, _, _⟩ := Row.flat ha
  obtain ⟨ba, bc, rfl, _, _, _⟩ := Row.flat hb
  obtain ⟨w0, hw0⟩ : ∃ X, X = (w.alloc (.cells #[.slice so (extL sig).length sc, .int .i64 (sig.length : Int), .func (.func 59) #[] #[.pointer (some ⟨bd, 0, none⟩)]] 69)).alloc (.cells #[.slice aa a.length ac, .slice ba b.length bc] 38) := ⟨_, rfl⟩
  have C0 : Hid (Below w.heap.size w w0) := by rw [hw0]; exact below_step (below_alloc _) (below_alloc _)
  have HC : Hid (∀ W, Below w0.heap.size w0 W → (W.cell? ⟨w.heap.size, 0, none⟩ = some (.slice so (extL sig).length sc) ∧ W.cell? ⟨w.heap.size, 1, none⟩ = some (.int .i64 (sig.length : Int)) ∧ W.cell? ⟨w.heap.size, 2, none⟩ = some (.func (.func 59) #[] #[.pointer (some ⟨bd, 0, none⟩)])) ∧ W.cell? ⟨w.heap.size + 1, 1, none⟩ = some (.slice ba b.length bc)) := fun W hW => by
    have hk := Kp.of_below hW
    rw [hw0] at hk
    have e9 : w.heap.size + 1 = (w.alloc (.cells #[.slice so (extL sig).length sc, .int .i64 (sig.length : Int), .func (.func 59) #[] #[.pointer (some ⟨bd, 0, none⟩)]] 69)).heap.size := (World.size_alloc _ _).symm
    rw [e9]
    exact ⟨⟨hk.cell _ _ (cell_old (cell_new rfl)), hk.cell _ _ (cell_old (cell_new rfl)), hk.cell _ _ (cell_old (cell_new rfl))⟩, hk.cell _ _ (cell_new rfl)⟩
  have HMy := hid (mayStand_any _ (.slice ba b.length bc) sig rs b w0 (HE.out.kp (Kp.of_below C0.out)) (hb.kp (Kp.of_below C0.out)) (hT.below C0.out) hl)
  have HB := hid hb
  clear ha hb hT
  obtain ⟨⟨x0, x1, x2⟩, x3⟩ := HC.out w0 (Below.refl _ _)
  obtain ⟨S, hS⟩ : ∃ S, S = standB sig b := ⟨_, rfl⟩
  rw [← hS] at HMy
  have HS := hid hS
  clear hS
  go_enter Tryz.func39, Tryz.ntmps39
  go_upto_region 1 with fail
  rw [← hw0]
  clear hw0
  go_wp2_with fail
  refine HMy.out.mono ?_
  rintro e w1 ⟨rfl, hb1⟩
  have B1 := hid (below_step C0.out hb1)
  have D1 := hid hb1
  clear hb1 x0 x1 x2 x3
  cases S
  · have HF : Hid (exitL sig rs b = []) := by show _ = _; unfold exitL; rw [← HS.out]; rfl
    go_wp2
    go_ret
    exact ⟨_, rfl, by rw [HF.out]; exact nil_own13 _ _, B1.out⟩
  · have HF : Hid (exitL sig rs b = capL (extL sig) (definedL sig rs) b) := by show _ = _; unfold exitL; rw [← HS.out]; rfl
    obtain ⟨h1, h2, h3, h4⟩ := stand_parts HS.out.symm
    have HCp := hid (capOf_any _ (.slice ba b.length bc) sig rs b w1 (HE.out.kp (Kp.of_below B1.out)) (HB.out.kp (Kp.of_below B1.out)) (sig_arOk13 h2) h3 h4 h1 hdn)
    obtain ⟨⟨x0, x1, x2⟩, x3⟩ := HC.out w1 D1.out
    clear h1 h2 h3 h4
    go_wp2_with fail
    refine HCp.out.mono ?_
    rintro e w2 ⟨v2, rfl, o2, hb2⟩
    have B2 := hid (below_step B1.out hb2)
    have HO := hid (o2.mono B1.out.size)
    clear hb2 o2 x0 x1 x2 x3
    go_wp2
    go_ret
    exact ⟨_, rfl, by rw [HF.out]; exact HO.out, B2.out⟩

set_option maxRecDepth 100000 in
set_option maxHeartbeats 1600000 in
theorem entry_any (ev lv rv : Value) (sig : List Sy) (rs : List Rl) (a b : List Int) (w : World) (he : Est w ev sig rs) (ha : Is w lv a) (hb : Is w rv b) (hT : Tabs w) (hl : a.length * 8 ≤ 140737488351232) :
    Calls Tryz.prog 40 #[ev, .agg #[lv, rv]] w fun e w' => ∃ v', e = .returned v' ∧ OwI w' w.heap.size v' (entryL sig a) ∧ Below w.heap.size w w' := by
  have HE := hid he
  obtain ⟨so, sc, bd, dv, rfl, _, _, _⟩ := he
  obtain ⟨aa, ac, rfl, _, _, _⟩ := Row.flat ha
  obtain ⟨ba, bc, rfl, _, _, _⟩ := Row.flat hb
  obtain ⟨w0, hw0⟩ : ∃ X, X = (w.alloc (.cells #[.slice so (extL sig).length sc, .int .i64 (sig.length : Int), .func (.func 59) #[] #[.pointer (some ⟨bd, 0, none⟩)]] 69)).alloc (.cells #[.slice aa a.length ac, .slice ba b.length bc] 38) := ⟨_, rfl⟩
  have C0 : Hid (Below w.heap.size w w0) := by rw [hw0]; exact below_step (below_alloc _) (below_alloc _)
  have HC : Hid (∀ W, Below w0.heap.size w0 W → (W.cell? ⟨w.heap.size, 0, none⟩ = some (.slice so (extL sig).length sc) ∧ W.cell? ⟨w.heap.size, 1, none⟩ = some (.int .i64 (sig.length : Int)) ∧ W.cell? ⟨w.heap.size, 2, none⟩ = some (.func (.func 59) #[] #[.pointer (some ⟨bd, 0, none⟩)])) ∧ W.cell? ⟨w.heap.size + 1, 0, none⟩ = some (.slice aa a.length ac)) := fun W hW => by
    have hk := Kp.of_below hW
    rw [hw0] at hk
    have e9 : w.heap.size + 1 = (w.alloc (.cells #[.slice so (extL sig).length sc, .int .i64 (sig.length : Int), .func (.func 59) #[] #[.pointer (some ⟨bd, 0, none⟩)]] 69)).heap.size := (World.size_alloc _ _).symm
    rw [e9]
    exact ⟨⟨hk.cell _ _ (cell_old (cell_new rfl)), hk.cell _ _ (cell_old (cell_new rfl)), hk.cell _ _ (cell_old (cell_new rfl))⟩, hk.cell _ _ (cell_new rfl)⟩
  have HMy := hid (mayStand_any _ (.slice aa a.length ac) sig rs a w0 (HE.out.kp (Kp.of_below C0.out)) (ha.kp (Kp.of_below C0.out)) (hT.below C0.out) hl)
  have HA := hid ha
  clear ha hb hT
  obtain ⟨⟨x0, x1, x2⟩, x3⟩ := HC.out w0 (Below.refl _ _)
  obtain ⟨S, hS⟩ : ∃ S, S = standB sig a := ⟨_, rfl⟩
  rw [← hS] at HMy
  have HS := hid hS
  clear hS
  go_enter Tryz.func40, Tryz.ntmps40
  go_upto_region 1 with fail
  rw [← hw0]
  clear hw0
  go_wp2_with fail
  refine HMy.out.mono ?_
  rintro e w1 ⟨rfl, hb1⟩
  have B1 := hid (below_step C0.out hb1)
  have D1 := hid hb1
  clear hb1 x0 x1 x2 x3
  cases S
  · have HF : Hid (entryL sig a = []) := by show _ = _; unfold entryL; rw [← HS.out]; rfl
    go_wp2
    go_ret
    exact ⟨_, rfl, by rw [HF.out]; exact nil_own13 _ _, B1.out⟩
  · have HF : Hid (entryL sig a = movL 512 (canR a)) := by show _ = _; unfold entryL; rw [← HS.out]; rfl
    obtain ⟨h1, h2, h3, h4⟩ := stand_parts HS.out.symm
    obtain ⟨q1, q2, q3⟩ := can_shift (d := 512) h3 h1 (by omega)
    have hsh := mov_ok q1
    obtain ⟨W2, hW2⟩ : ∃ X, X = w1.alloc (.cells #[.slice aa a.length ac] 36) := ⟨_, rfl⟩
    have b2 : Below w1.heap.size w1 W2 := by rw [hW2]; exact below_alloc _
    have hrs : Rs W2 (.slice (some ⟨w1.heap.size, 0, none⟩) 1 1) [a] := by
      rw [hW2]
      refine ⟨_, 1, rfl, Nat.le_refl _, by simp [maxLen], fun _ => ⟨w1.heap.size, 0, rfl, by simp, fun k x hk => ?_⟩⟩
      have hk0 : k = 0 := by have := (List.getElem?_eq_some_iff.1 hk).1; simp at this; omega
      subst hk0
      cases hk
      exact ⟨by omega, _, cell_new rfl, (HA.out.kp (Kp.of_below B1.out)).kp (Kp.of_below (below_alloc _))⟩
    have HCn := hid (canon_any _ [a] W2 hrs (by simp) (by simp; omega))
    have B2 := hid (below_step B1.out b2)
    have HSh : Hid (shiftE 512 (canR a) = 0 ∧ shiftL 512 (canR a) = movL 512 (canR a)) := hsh
    have hcl : (canR a).length * 8 ≤ 140737488351232 := by have := (canR_right h3 (by omega)).2.1; omega
    have HCl := hid hcl
    obtain ⟨⟨x0, x1, x2⟩, x3⟩ := HC.out w1 D1.out
    clear h1 h2 h3 h4 q1 q2 q3 hsh b2 hrs hcl
    go_wp2_with fail
    rw [← hW2]
    clear hW2 x0 x1 x2 x3
    refine HCn.out.mono ?_
    rintro e w3 ⟨v3, vs, rfl, ho3, hor, hb3⟩
    have B3 := hid (below_step B2.out hb3)
    obtain ⟨u, rfl⟩ : ∃ u, vs = [u] := by
      have := hor.1
      match vs, this with
      | [u], _ => exact ⟨u, rfl⟩
    have hu := hor.2 0 u (canR a) rfl rfl
    have HU := hid hu.is
    obtain ⟨g3, c3, rfl, hc3, hm3⟩ : ∃ g c, v3 = .slice (some ⟨g, 0, none⟩) 1 c ∧ 1 ≤ c ∧ c ≤ maxLen := by
      rcases ho3.2 with ⟨_, h9⟩ | ⟨g, cap, cur, hv, _, _, h8, h7, _⟩
      · simp at h9
      · exact ⟨g, cap, hv, h8, h7⟩
    have hcell : w3.cell? ⟨g3, 0, none⟩ = some u := by
      have := World.ownsRow.cellAt ho3 0 (by simp)
      exact this
    obtain ⟨ua, un, uc, rfl⟩ : ∃ a n c, u = .slice a n c := by obtain ⟨a, c, h, _⟩ := Row.flat HU.out; exact ⟨_, _, _, h⟩
    have HCe := hid hcell
    have HSf := hid (shift_any _ (canR a) 512 w3 HU.out HCl.out (by omega) (by omega))
    unfold maxLen at hm3
    clear hb3 ho3 hor hu
    go_wp2_with fail
    refine HSf.out.mono ?_
    rintro e w4 ⟨v4, rfl, o4, hb4⟩
    rw [HSh.out.1]
    rw [HSh.out.2] at o4
    have B4 := hid (below_step B3.out hb4)
    have HO := hid (o4.mono B3.out.size)
    clear hb4 o4
    go_wp2
    go_ret
    exact ⟨_, rfl, by rw [HF.out]; exact HO.out, B4.out⟩

theorem results_cell13 {P : Program} {fn : Func} {w : World} {tmps : Array Value} {t u : Tmp} {ty : TypeId} {ad : Addr} {v : Value} (h : fn.results = #[.cell t ty, .tmp u]) (ht : tmps.getD t undef = .pointer (some ad)) (hl : (loadVar ty ad).run P w = .ok v w) : (results fn tmps).run P w = .ok (.tuple #[v, tmps.getD u undef]) w := by
  have ht2 : tmps[t]?.getD undef = .pointer (some ad) := by simpa using ht
  simp [results, h, ht2, hl, asAddr]

/-- A row that is read, and a store into another block. -/
theorem is_set13 {w : World} {v : Value} {D : List Int} {b k : Nat} {u : Value} (h : Is w v D) (hb : ∀ j, v.ownBlock = some j → j ≠ b) : Is (w.setCell ⟨b, k, none⟩ u) v D := by
  obtain ⟨ao, cap, rfl, hc, hm, hx⟩ := h
  refine ⟨ao, cap, rfl, hc, hm, fun h0 => ?_⟩
  obtain ⟨g, off, rfl, hg, hE⟩ := hx h0
  have hgb : g ≠ b := hb g rfl
  refine ⟨g, off, rfl, by simpa [World.setCell] using hg, fun i x hi => ?_⟩
  have h9 := hE i x hi
  unfold EI at h9 ⊢
  rw [World.cell?_setCell_other _ _ _ _ (by intro e; cases e; exact hgb rfl)]
  exact h9

/-- An estimate whose block isn't below b. -/
def EstB (b : Nat) (ev : Value) : Prop := ∃ (so : Option Addr) (n sc : Nat) (k : Value) (bd : Nat), ev = .agg #[.slice so n sc, k, .func (.func 59) #[] #[.pointer (some ⟨bd, 0, none⟩)]] ∧ b ≤ bd

set_option maxRecDepth 100000 in
set_option maxHeartbeats 1600000 in
/-- What newEstimate leaves. -/
theorem newEstimate_any (sv rv : Value) (sig : List Sy) (rs : List Rl) (w : World) (hs : Sg w sv sig) (hr : RU w rv rs) (hT : Tabs w) :
    Calls Tryz.prog 37 #[.agg #[sv, rv]] w fun e w' => ∃ ev, e = .returned (.tuple #[ev, .bool (sysB sig rs)]) ∧ (sysB sig rs = false → ev = .agg #[.slice none 0 0, .int .i64 0, .nilFunc]) ∧ (sysB sig rs = true → Est w' ev sig rs ∧ EstB w.heap.size ev) ∧ Below w.heap.size w w' := by
  obtain ⟨so, sc, rfl, hso, hsc, _⟩ := Row.flat hs
  obtain ⟨ro, rc, rfl, hro, hrc, _⟩ := Row.flat hr
  have HS := hid hs
  have HR := hid hr
  have HT := hid hT
  clear hs hr hT
  obtain ⟨w0, hw0⟩ : ∃ X, X = (w.alloc (.cells #[.slice so sig.length sc, .slice ro rs.length rc] 32)).alloc (.cells #[.slice none 0 0, .int .i64 0, .nilFunc] 69) := ⟨_, rfl⟩
  have C0 : Hid (Below w.heap.size w w0) := by rw [hw0]; exact below_step (below_alloc _) (below_alloc _)
  have HC : Hid (∀ W, Below w0.heap.size w0 W → (W.cell? ⟨w.heap.size, 0, none⟩ = some (.slice so sig.length sc) ∧ W.cell? ⟨w.heap.size, 1, none⟩ = some (.slice ro rs.length rc)) ∧ W.heap[w.heap.size + 1]? = some (.cells #[.slice none 0 0, .int .i64 0, .nilFunc] 69 (0, 0))) := fun W hW => by
    have hk := Kp.of_below hW
    have hb := hW.block (w.heap.size + 1) (by rw [hw0, World.size_alloc, World.size_alloc]; omega)
    rw [hw0] at hk hb
    have e9 : w.heap.size + 1 = (w.alloc (.cells #[.slice so sig.length sc, .slice ro rs.length rc] 32)).heap.size := (World.size_alloc _ _).symm
    refine ⟨⟨hk.cell _ _ (cell_old (cell_new rfl)), hk.cell _ _ (cell_old (cell_new rfl))⟩, hb.trans ?_⟩
    rw [e9]
    exact heap_alloc_new _ _
  have HW0 : Hid (w.heap.size + 2 ≤ w0.heap.size) := by rw [hw0, World.size_alloc, World.size_alloc]; exact Nat.le_refl _
  have HCk := hid (sysCheck_any _ _ sig rs w0 (HS.out.kp (Kp.of_below C0.out)) (HR.out.kp (Kp.of_below C0.out)) (HT.out.below C0.out))
  obtain ⟨⟨x0, x1⟩, _⟩ := HC.out w0 (Below.refl _ _)
  obtain ⟨E, hE⟩ : ∃ E, E = (sysE sig rs).1 := ⟨_, rfl⟩
  rw [← hE] at HCk
  have HE := hid hE
  clear hE
  go_enter Tryz.func37, Tryz.ntmps37
  go_upto_region 1 with fail
  rw [← hw0]
  clear hw0
  go_wp2_with fail
  refine HCk.out.mono ?_
  rintro e w1 ⟨rfl, hb1⟩
  have D1 := hid hb1
  have B1 := hid (below_step C0.out hb1)
  clear hb1 x0 x1
  obtain ⟨⟨x0, x1⟩, hblk⟩ := HC.out w1 D1.out
  by_cases h0 : E = 0
  · have hB : sysB sig rs = true := by unfold sysB; rw [decide_eq_true_eq, ← HE.out, h0]
    have hap := (ahead_parts (sys_right hB).1)
    have hext0 : aheadE sig 0 = 0 := by
      unfold aheadE
      rw [if_pos hap.1, if_neg (by have := hap.2.1; omega), hap.2.2.1]
      simp
    have HB := hid hB
    have HEx := hid (extend_any _ sig w1 (HS.out.kp (Kp.of_below B1.out)) (HT.out.below B1.out))
    rw [hext0] at HEx
    subst h0
    clear hB hap hblk
    go_wp2_with fail
    refine HEx.out.mono ?_
    rintro e w2 ⟨v2, rfl, o2, hb2⟩
    simp only [if_true] at o2
    have D2 := hid (below_step D1.out hb2)
    have B2 := hid (below_step B1.out hb2)
    have HOw := hid o2
    have HO2 := hid o2.sg
    have HSz := hid hb2.size
    have HSz1 := hid D1.out.size
    obtain ⟨eo, ec, rfl, _, _⟩ := o2.shape
    clear hb2 o2 x0 x1
    obtain ⟨⟨x0, x1⟩, hblk⟩ := HC.out w2 D2.out
    have HDf := hid (definedBy_any _ _ sig rs w2.drew (HS.out.kp (Kp.of_below (below_step B2.out (drawn_below1 _)))) (HR.out.kp (Kp.of_below (below_step B2.out (drawn_below1 _)))) (HT.out.below (below_step B2.out (drawn_below1 _))))
    have y0 := cell_of_row w2 _ 0 _ _ _ hblk
    have y1 := cell_of_row w2 _ 1 _ _ _ hblk
    have y2 := cell_of_row w2 _ 2 _ _ _ hblk
    clear hblk
    go_upto_region 5 with fail
    go_region_with (first
      | (refine HDf.out.mono ?_; rintro e w3 ⟨bd, dv, rfl, hcl, hdv, hjd, hb3⟩; have HJd := hid hjd; have HOw3 := hid (HOw.out.later (below_step (drawn_below1 _) hb3)); have B3 := hid (below_step B2.out (below_step (drawn_below1 _) hb3)); have HDv := hid hdv; have HCl := hid hcl; have HO3 := hid (HO2.out.kp (Kp.of_below (below_step (drawn_below1 _) hb3))); obtain ⟨⟨x0, x1⟩, hblk⟩ := HC.out w3 (below_step D2.out (below_step (drawn_below1 _) hb3)); have z0 := cell_of_row w3 _ 0 _ _ _ hblk; have z1 := cell_of_row w3 _ 1 _ _ _ hblk; have z2 := cell_of_row w3 _ 2 _ _ _ hblk; have g0 := frozen_of_row w3 _ 0 _ _ hblk; have g1 := frozen_of_row w3 _ 1 _ _ hblk; have g2 := frozen_of_row w3 _ 2 _ _ hblk; clear hb3 hcl hdv hblk hjd))
    all_goals (
      simp only [Act.put, List.getElem_toArray, List.getElem_cons_succ, List.getElem_cons_zero, List.setIfInBounds_toArray, List.set_cons_succ, List.set_cons_zero]
      go_wp2
      refine bodyPost_ret (results_cell13 (t := 2) (u := 3) (ty := 69) (ad := ⟨w.heap.size + 1, 0, none⟩) (v := .agg #[.slice eo (extL sig).length ec, .int .i64 (sig.length : Int), .func (.func 59) #[] #[.pointer (some ⟨bd, 0, none⟩)]]) rfl rfl (by go_simp)) rfl ?_
      refine ⟨_, by rw [HB.out]; rfl, fun h => (by rw [HB.out] at h; cases h), fun _ => ?_, ?_⟩
      · have hw9 : w.heap.size + 2 ≤ w0.heap.size := HW0.out
        have hs1 := HSz1.out
        have hs2 := HSz.out
        have hne : ∀ j, Value.ownBlock (.slice eo (extL sig).length ec) = some j → j ≠ w.heap.size + 1 := fun j hj => by have := own_blk HOw3.out.2 hj; omega
        have hkeep : ∀ (W : World) (k : Nat) (u : Value), OS W w1.heap.size (.slice eo (extL sig).length ec) (extL sig) → OS (W.setCell ⟨w.heap.size + 1, k, none⟩ u) w1.heap.size (.slice eo (extL sig).length ec) (extL sig) := fun W k u hW => hW.kept (set_grown W (w.heap.size + 1) k u) (.inr fun e => hne _ e rfl)
        have hjd := HJd.out
        have hbd : bd ≠ w.heap.size + 1 := by have := hjd.1; rw [show w2.drew.heap.size = w2.heap.size from rfl] at this; omega
        have hdj : ∀ j, dv.ownBlock = some j → j ≠ w.heap.size + 1 := fun j hj => by have := hjd.2 j hj; rw [show w2.drew.heap.size = w2.heap.size from rfl] at this; omega
        refine ⟨⟨eo, ec, bd, dv, rfl, (hkeep _ _ _ (hkeep _ _ _ (hkeep _ _ _ HOw3.out))).sg, ?_, is_set13 (is_set13 (is_set13 HDv.out hdj) hdj) hdj⟩, ⟨_, _, _, _, bd, rfl, Nat.le_trans B2.out.size hjd.1⟩⟩
        rw [World.cell?_setCell_other _ _ _ _ (by intro e; cases e), World.cell?_setCell_other _ _ _ _ (by intro e; cases e), World.cell?_setCell_other _ _ _ _ (by intro e; cases e; exact hbd rfl)]
        exact HCl.out
      · exact (((B3.out.setCell (p := ⟨w.heap.size + 1, 0, none⟩) (Nat.le_succ _) _).setCell (p := ⟨w.heap.size + 1, 1, none⟩) (Nat.le_succ _) _).setCell (p := ⟨w.heap.size + 1, 2, none⟩) (Nat.le_succ _) _))
  · have hB : sysB sig rs = false := by unfold sysB; rw [decide_eq_false_iff_not, ← HE.out]; exact h0
    have hne : (E != 0) = true := by rw [bne_iff_ne]; exact h0
    have HB := hid hB
    have y0 := cell_of_row w1 _ 0 _ _ _ hblk
    have y1 := cell_of_row w1 _ 1 _ _ _ hblk
    have y2 := cell_of_row w1 _ 2 _ _ _ hblk
    have f0 := frozen_of_row w1 _ 0 _ _ hblk
    have f1 := frozen_of_row w1 _ 1 _ _ hblk
    have f2 := frozen_of_row w1 _ 2 _ _ hblk
    clear hB h0 hblk
    go_wp2
    refine bodyPost_ret (results_cell13 (t := 2) (u := 3) (ty := 69) (ad := ⟨w.heap.size + 1, 0, none⟩) (v := .agg #[.slice none 0 0, .int .i64 0, .nilFunc]) rfl rfl (by go_simp)) rfl ?_
    refine ⟨_, by rw [HB.out]; rfl, fun _ => rfl, fun h => (by rw [HB.out] at h; cases h), ?_⟩
    exact (((B1.out.setCell (p := ⟨w.heap.size + 1, 0, none⟩) (Nat.le_succ _) _).setCell (p := ⟨w.heap.size + 1, 1, none⟩) (Nat.le_succ _) _).setCell (p := ⟨w.heap.size + 1, 2, none⟩) (Nat.le_succ _) _)

end Go.Proofs.YtoapgbaibpkckaaGreatDoor

/- Edge of package pairs walked. -/
namespace Go.Proofs.YtoapgbaibpkckaaGreatDoor
open Go.RowKit Go.Maps Go.BigFrame

/-- Whether one pair may be followed by another one. -/
noncomputable def edgeB (sig : List Sy) (rs : List Rl) (pr ql : List Int) : Bool := sysB sig rs && meetB (extL sig) (exitL sig rs pr) (entryL sig ql)

theorem exit_few {sig : List Sy} {rs : List Rl} {t : List Int} : (exitL sig rs t).length ≤ 512 := by
  unfold exitL
  by_cases h : standB sig t = true
  · rw [if_pos h]
    obtain ⟨h1, h2, h3, h4⟩ := stand_parts h
    have := (capL_right (sig_arOk13 h2) (definedL sig rs) h3 h4 (by omega)).2.1
    omega
  · rw [if_neg h]
    simp

theorem entry_few {sig : List Sy} {t : List Int} : (entryL sig t).length ≤ 512 := by
  unfold entryL
  by_cases h : standB sig t = true
  · rw [if_pos h]
    obtain ⟨h1, h2, h3, h4⟩ := stand_parts h
    have := (can_shift (d := 512) h3 h1 (by omega)).2.2
    simp only [Int.cast_ofNat_Int] at this
    omega
  · rw [if_neg h]
    simp

set_option maxRecDepth 100000 in
set_option maxHeartbeats 3200000 in
theorem edge_any (sv rv plv prv qlv qrv : Value) (sig : List Sy) (rs : List Rl) (pl pr ql qr : List Int) (w : World) (hs : Sg w sv sig) (hr : RU w rv rs) (hpl : Is w plv pl) (hpr : Is w prv pr) (hql : Is w qlv ql) (hqr : Is w qrv qr) (hT : Tabs w) (hl1 : pr.length * 8 ≤ 140737488351232) (hl2 : ql.length * 8 ≤ 140737488351232) :
    Calls Tryz.prog 15 #[.agg #[sv, rv], .agg #[plv, prv], .agg #[qlv, qrv]] w fun e w' => e = .returned (.bool (edgeB sig rs pr ql)) ∧ Below w.heap.size w w' := by
  obtain ⟨so, sc, rfl, _, _, _⟩ := Row.flat hs
  obtain ⟨ro, rc, rfl, _, _, _⟩ := Row.flat hr
  obtain ⟨a1, c1, rfl, _, _, _⟩ := Row.flat hpl
  obtain ⟨a2, c2, rfl, _, _, _⟩ := Row.flat hpr
  obtain ⟨a3, c3, rfl, _, _, _⟩ := Row.flat hql
  obtain ⟨a4, c4, rfl, _, _, _⟩ := Row.flat hqr
  obtain ⟨w0, hw0⟩ : ∃ X, X = ((w.alloc (.cells #[.slice so sig.length sc, .slice ro rs.length rc] 32)).alloc (.cells #[.slice a1 pl.length c1, .slice a2 pr.length c2] 38)).alloc (.cells #[.slice a3 ql.length c3, .slice a4 qr.length c4] 38) := ⟨_, rfl⟩
  have C0 : Hid (Below w.heap.size w w0) := by rw [hw0]; exact below_step (below_step (below_alloc _) (below_alloc _)) (below_alloc _)
  have HC : Hid (∀ W, Below w0.heap.size w0 W → (W.cell? ⟨w.heap.size, 0, none⟩ = some (.slice so sig.length sc) ∧ W.cell? ⟨w.heap.size, 1, none⟩ = some (.slice ro rs.length rc)) ∧ (W.cell? ⟨w.heap.size + 1, 0, none⟩ = some (.slice a1 pl.length c1) ∧ W.cell? ⟨w.heap.size + 1, 1, none⟩ = some (.slice a2 pr.length c2)) ∧ W.cell? ⟨w.heap.size + 1 + 1, 0, none⟩ = some (.slice a3 ql.length c3) ∧ W.cell? ⟨w.heap.size + 1 + 1, 1, none⟩ = some (.slice a4 qr.length c4)) := fun W hW => by
    have hk := Kp.of_below hW
    rw [hw0] at hk
    have e9 : w.heap.size + 1 = (w.alloc (.cells #[.slice so sig.length sc, .slice ro rs.length rc] 32)).heap.size := (World.size_alloc _ _).symm
    have e8 : w.heap.size + 1 + 1 = ((w.alloc (.cells #[.slice so sig.length sc, .slice ro rs.length rc] 32)).alloc (.cells #[.slice a1 pl.length c1, .slice a2 pr.length c2] 38)).heap.size := by rw [World.size_alloc, World.size_alloc]
    rw [e8, e9]
    exact ⟨⟨hk.cell _ _ (cell_old (cell_old (cell_new rfl))), hk.cell _ _ (cell_old (cell_old (cell_new rfl)))⟩, ⟨hk.cell _ _ (cell_old (cell_new rfl)), hk.cell _ _ (cell_old (cell_new rfl))⟩, hk.cell _ _ (cell_new rfl), hk.cell _ _ (cell_new rfl)⟩
  have HNe := hid (newEstimate_any _ _ sig rs w0 (hs.kp (Kp.of_below C0.out)) (hr.kp (Kp.of_below C0.out)) (hT.below C0.out))
  have H1 := hid hpl
  have H2 := hid hpr
  have H3 := hid hql
  have H4 := hid hqr
  have HT := hid hT
  clear hs hr hpl hpr hql hqr hT
  obtain ⟨⟨x0, x1⟩, ⟨x2, x3⟩, x4, x5⟩ := HC.out w0 (Below.refl _ _)
  obtain ⟨S, hS⟩ : ∃ S, S = sysB sig rs := ⟨_, rfl⟩
  rw [← hS] at HNe
  have HS := hid hS
  clear hS
  go_enter Tryz.func15, Tryz.ntmps15
  go_upto_region 1 with fail
  rw [← hw0]
  clear hw0
  go_wp2_with fail
  refine HNe.out.mono ?_
  rintro e w1 ⟨ev, rfl, hze, hest, hb1⟩
  have D1 := hid hb1
  have B1 := hid (below_step C0.out hb1)
  have HEs := hid hest
  have HZe := hid hze
  clear hb1 hest hze x0 x1 x2 x3 x4 x5
  cases S
  · have HR : Hid (edgeB sig rs pr ql = false) := by show _ = _; unfold edgeB; rw [← HS.out]; rfl
    have hz := HZe.out rfl
    subst hz
    obtain ⟨W1, hW1⟩ : ∃ X, X = w1.alloc (.cells #[.slice none 0 0, .int .i64 0, .nilFunc] 69) := ⟨_, rfl⟩
    have B2 : Hid (Below w1.heap.size w1 W1) := by rw [hW1]; exact below_alloc _
    go_upto_region 2 with fail
    rw [← hW1]
    clear hW1
    refine region_below (by kernel_rfl) (by kernel_rfl) ?_
    -- Q:edge0
    (go_big_quiet_want; go_big_quiet_op; go_big_quiet_on)
    (go_big_quiet_want; go_big_quiet_op; go_big_quiet_on)
    go_big_quiet_skip
    go_big_quiet_skip
    go_big_quiet_skip
    go_big_quiet_skip
    go_big_quiet_skip
    go_big_quiet_skip
    go_big_quiet_skip
    go_big_quiet_skip
    go_big_quiet_want
    refine ⟨.bool false, fun w' hw' => ?_, ?_⟩
    · unfold Oper.quietAt; go_simp
    simp only [Act.put, List.setIfInBounds_toArray, List.set_cons_zero, List.set_cons_succ]
    go_big_quiet_on
    (go_big_quiet_want; go_big_quiet_op; go_big_quiet_on)
    refine wpQuiet_nil ?_
    -- E:edge0
    intro w2 hb2
    have B9 := hid (below_step (below_step B1.out B2.out) hb2)
    clear hb2
    go_wp2
    go_ret
    exact ⟨ret1b HR.out.symm, B9.out⟩
  · have HR : Hid (edgeB sig rs pr ql = meetB (extL sig) (exitL sig rs pr) (entryL sig ql)) := by show _ = _; unfold edgeB; rw [← HS.out]; rfl
    have hest := (HEs.out rfl).1
    have hest2 := hest
    obtain ⟨so2, sc2, bd, dv, he9, _, _, _⟩ := hest2
    obtain ⟨e1, h91⟩ : ∃ x, x = Value.slice so2 (extL sig).length sc2 := ⟨_, rfl⟩
    obtain ⟨e2, h92⟩ : ∃ x, x = Value.int .i64 (sig.length : Int) := ⟨_, rfl⟩
    obtain ⟨e3, h93⟩ : ∃ x, x = Value.func (.func 59) #[] #[.pointer (some ⟨bd, 0, none⟩)] := ⟨_, rfl⟩
    have he8 : ev = .agg #[e1, e2, e3] := by rw [he9, h91, h92, h93]
    obtain ⟨W1, hW1⟩ : ∃ X, X = w1.alloc (.cells #[e1, e2, e3] 69) := ⟨_, rfl⟩
    have B2 : Hid (Below w1.heap.size w1 W1) := by rw [hW1]; exact below_alloc _
    have HW : Hid (∀ W, Below W1.heap.size W1 W → W.cell? ⟨w1.heap.size, 0, none⟩ = some e1 ∧ W.cell? ⟨w1.heap.size, 1, none⟩ = some e2 ∧ W.cell? ⟨w1.heap.size, 2, none⟩ = some e3) := fun W hW => by
      have hk := Kp.of_below hW
      rw [hW1] at hk
      exact ⟨hk.cell _ _ (cell_new rfl), hk.cell _ _ (cell_new rfl), hk.cell _ _ (cell_new rfl)⟩
    subst he9
    rw [h91, h92, h93] at hW1
    rw [he8] at hest
    clear he8
    go_upto_region 2 with fail
    rw [← hW1]
    clear hW1 h91 h92 h93
    have hdn := defined_few HS.out.symm
    have HX := hid fun W (hW : Below W1.heap.size W1 W) => exit_any (.agg #[e1, e2, e3]) _ _ sig rs pl pr W (hest.kp (Kp.of_below (below_step B2.out hW))) (H1.out.kp (Kp.of_below (below_step (below_step B1.out B2.out) hW))) (H2.out.kp (Kp.of_below (below_step (below_step B1.out B2.out) hW))) (HT.out.below (below_step (below_step B1.out B2.out) hW)) hl1 hdn
    have HN := hid fun W (hW : Below W1.heap.size W1 W) => entry_any (.agg #[e1, e2, e3]) _ _ sig rs ql qr W (hest.kp (Kp.of_below (below_step B2.out hW))) (H3.out.kp (Kp.of_below (below_step (below_step B1.out B2.out) hW))) (H4.out.kp (Kp.of_below (below_step (below_step B1.out B2.out) hW))) (HT.out.below (below_step (below_step B1.out B2.out) hW)) hl2
    have HM := hid fun W (vx vn : Value) (hW : Below W1.heap.size W1 W) (h1 : Is W vx (exitL sig rs pr)) (h2 : Is W vn (entryL sig ql)) => meet_any (.agg #[e1, e2, e3]) vx vn sig rs _ _ W (hest.kp (Kp.of_below (below_step B2.out hW))) h1 h2 (HT.out.below (below_step (below_step B1.out B2.out) hW)) (by have := exit_few (sig := sig) (rs := rs) (t := pr); have := entry_few (sig := sig) (t := ql); omega)
    have HCw : Hid (∀ W, Below W1.heap.size W1 W → (W.cell? ⟨w1.heap.size, 0, none⟩ = some e1 ∧ W.cell? ⟨w1.heap.size, 1, none⟩ = some e2 ∧ W.cell? ⟨w1.heap.size, 2, none⟩ = some e3) ∧ (W.cell? ⟨w.heap.size + 1, 0, none⟩ = some (.slice a1 pl.length c1) ∧ W.cell? ⟨w.heap.size + 1, 1, none⟩ = some (.slice a2 pr.length c2)) ∧ W.cell? ⟨w.heap.size + 1 + 1, 0, none⟩ = some (.slice a3 ql.length c3) ∧ W.cell? ⟨w.heap.size + 1 + 1, 1, none⟩ = some (.slice a4 qr.length c4)) := fun W hW => ⟨HW.out W hW, (HC.out W (below_step (below_step D1.out B2.out) hW)).2⟩
    clear hest hdn
    obtain ⟨⟨y0, y1, y2⟩, ⟨y3, y4⟩, y5, y6⟩ := HCw.out W1 (Below.refl _ _)
    obtain ⟨X, hX⟩ : ∃ X, X = exitL sig rs pr := ⟨_, rfl⟩
    obtain ⟨N, hN⟩ : ∃ N, N = entryL sig ql := ⟨_, rfl⟩
    rw [← hX, ← hN] at HM HR
    rw [← hX] at HX
    rw [← hN] at HN
    clear hX hN
    -- R:edge
    have hS : Kp W1 W1.drew := Kp.of_below (drawn_below1 _)
    refine wp_region_held_drew (S := fun w' => Kp W1 w') (by kernel_rfl) hS (fun _ => ?_)
    obtain ⟨z0, hz0⟩ : ∃ X, X = W1.drew := ⟨_, rfl⟩
    have b0 : Below W1.heap.size W1 z0 := by rw [hz0]; exact drawn_below1 _
    rw [← hz0] at hS ⊢
    clear hz0
    refine wpAnyH_take (i := 0) (v := .bool true) rfl (by kernel_rfl) (by kernel_rfl) (by kernel_rfl) (fun _ _ _ h => h) (Or.inl ⟨by kernel_rfl, fun w' h => by go_simp⟩) hS ?_
    (try simp only [Act.put]); (try simp only [List.setIfInBounds_toArray]); (try simp only [List.set_cons_zero, List.set_cons_succ])
    refine wpAnyH_take (i := 1) (v := .bool true) rfl (by kernel_rfl) (by kernel_rfl) (by kernel_rfl) (fun _ _ _ h => h) (Or.inl ⟨by kernel_rfl, fun w' h => by go_simp⟩) hS ?_
    (try simp only [Act.put]); (try simp only [List.setIfInBounds_toArray]); (try simp only [List.set_cons_zero, List.set_cons_succ])
    refine wpAnyH_take (i := 2) (v := .agg #[e1, e2, e3]) rfl (by kernel_rfl) (by kernel_rfl) (by kernel_rfl) (fun _ _ _ h => h) (Or.inl ⟨by kernel_rfl, fun w' h => by have hh0 := h.cell _ _ y0; have hh1 := h.cell _ _ y1; have hh2 := h.cell _ _ y2; go_simp⟩) hS ?_
    (try simp only [Act.put]); (try simp only [List.setIfInBounds_toArray]); (try simp only [List.set_cons_zero, List.set_cons_succ])
    refine wpAnyH_take (i := 3) (v := .agg #[e1, e2, e3]) rfl (by kernel_rfl) (by kernel_rfl) (by kernel_rfl) (fun _ _ _ h => h) (Or.inl ⟨by kernel_rfl, fun w' h => by have hh0 := h.cell _ _ y0; have hh1 := h.cell _ _ y1; have hh2 := h.cell _ _ y2; go_simp⟩) hS ?_
    (try simp only [Act.put]); (try simp only [List.setIfInBounds_toArray]); (try simp only [List.set_cons_zero, List.set_cons_succ])
    refine wpAnyH_take (i := 4) (v := .agg #[.slice a1 pl.length c1, .slice a2 pr.length c2]) rfl (by kernel_rfl) (by kernel_rfl) (by kernel_rfl) (fun _ _ _ h => h) (Or.inl ⟨by kernel_rfl, fun w' h => by have hh0 := h.cell _ _ y3; have hh1 := h.cell _ _ y4; go_simp⟩) hS ?_
    (try simp only [Act.put]); (try simp only [List.setIfInBounds_toArray]); (try simp only [List.set_cons_zero, List.set_cons_succ])
    refine wpAnyH_take (i := 6) (v := .agg #[e1, e2, e3]) rfl (by kernel_rfl) (by kernel_rfl) (by kernel_rfl) (fun _ _ _ h => h) (Or.inl ⟨by kernel_rfl, fun w' h => by have hh0 := h.cell _ _ y0; have hh1 := h.cell _ _ y1; have hh2 := h.cell _ _ y2; go_simp⟩) hS ?_
    (try simp only [Act.put]); (try simp only [List.setIfInBounds_toArray]); (try simp only [List.set_cons_zero, List.set_cons_succ])
    refine wpAnyH_take (i := 7) (v := .agg #[.slice a3 ql.length c3, .slice a4 qr.length c4]) rfl (by kernel_rfl) (by kernel_rfl) (by kernel_rfl) (fun _ _ _ h => h) (Or.inl ⟨by kernel_rfl, fun w' h => by have hh0 := h.cell _ _ y5; have hh1 := h.cell _ _ y6; go_simp⟩) hS ?_
    (try simp only [Act.put]); (try simp only [List.setIfInBounds_toArray]); (try simp only [List.set_cons_zero, List.set_cons_succ])
    refine wpAnyH_ready (rs := [5]) (by kernel_rfl) (by simp) (AllReadyH.cons rfl (fun K hK => ?_) AllReadyH.nil)
    go_simp
    refine (HX.out z0 b0).mono ?_
    rintro e z1 ⟨vx, rfl, ox, hb1⟩
    have b1 := below_step b0 hb1
    have k1 : Kp W1 z1 := hS.trans (Kp.of_below hb1)
    refine hK.out _ _ k1 (fun _ => ?_)
    clear hK K hS
    have hS := k1
    clear k1
    (try simp only [Act.put]); (try simp only [List.setIfInBounds_toArray]); (try simp only [List.set_cons_zero, List.set_cons_succ])
    refine wpAnyH_ready (rs := [8]) (by kernel_rfl) (by simp) (AllReadyH.cons rfl (fun K hK => ?_) AllReadyH.nil)
    go_simp
    refine (HN.out z1 b1).mono ?_
    rintro e z2 ⟨vn, rfl, on, hb2⟩
    have b2 := below_step b1 hb2
    have k2 : Kp W1 z2 := hS.trans (Kp.of_below hb2)
    refine hK.out _ _ k2 (fun _ => ?_)
    clear hK K hS
    have hS := k2
    clear k2
    (try simp only [Act.put]); (try simp only [List.setIfInBounds_toArray]); (try simp only [List.set_cons_zero, List.set_cons_succ])
    refine wpAnyH_ready (rs := [9]) (by kernel_rfl) (by simp) (AllReadyH.cons rfl (fun K hK => ?_) AllReadyH.nil)
    go_simp
    refine (HM.out z2 _ _ b2 (ox.is.kp (Kp.of_below hb2)) on.is).mono ?_
    rintro e z3 ⟨rfl, hb3⟩
    have b3 := below_step b2 hb3
    have k3 : Kp W1 z3 := hS.trans (Kp.of_below hb3)
    refine hK.out _ _ k3 (fun _ => ?_)
    clear hK K hS
    have hS := k3
    clear k3
    (try simp only [Act.put]); (try simp only [List.setIfInBounds_toArray]); (try simp only [List.set_cons_zero, List.set_cons_succ])
    refine wpAnyH_take (i := 10) (v := .bool (meetB (extL sig) X N)) rfl (by kernel_rfl) (by kernel_rfl) (by kernel_rfl) (fun _ _ _ h => h) (Or.inl ⟨by kernel_rfl, fun w' h => by go_simp⟩) hS ?_
    (try simp only [Act.put]); (try simp only [List.setIfInBounds_toArray]); (try simp only [List.set_cons_zero, List.set_cons_succ])
    refine wpAnyH_take (i := 11) (v := .bool (meetB (extL sig) X N)) rfl (by kernel_rfl) (by kernel_rfl) (by kernel_rfl) (fun _ _ _ h => h) (Or.inl ⟨by kernel_rfl, fun w' h => by go_simp⟩) hS ?_
    (try simp only [Act.put]); (try simp only [List.setIfInBounds_toArray]); (try simp only [List.set_cons_zero, List.set_cons_succ])
    refine wpAnyH_done (by kernel_rfl) ?_ _
    (try simp only [Act.put]); (try simp only [List.getElem_toArray]); (try simp only [List.getElem_cons_succ, List.getElem_cons_zero]); (try simp only [List.setIfInBounds_toArray]); (try simp only [List.set_cons_succ, List.set_cons_zero])
    try go_wp2
    go_ret
    exact ⟨ret1b HR.out.symm, below_step (below_step B1.out B2.out) b3⟩

end Go.Proofs.YtoapgbaibpkckaaGreatDoor

/- The search of package graph in memory. -/
namespace Go.Proofs.YtoapgbaibpkckaaGreatDoor
open Go.RowKit Go.Maps Go.BigFrame

theorem own_ne {w : World} {base b n : Nat} {e t : TypeId} {s : Nat} {v : Value} {xs : List Value} {cs : Array Value} {fr : Nat × Nat} (h : w.ownsRow base e s v n xs) (hb : w.heap[b]? = some (.cells cs t fr)) (hne : t ≠ e) : v.ownBlock ≠ some b := by
  rcases h.2 with ⟨rfl, _⟩ | ⟨g, cap, cur, rfl, _, hg, _⟩
  · simp [Value.ownBlock]
  · intro e2
    cases e2
    rw [hb] at hg
    simp only [Option.some.injEq, Obj.cells.injEq] at hg
    exact hne hg.2.1

/-- Rows of numbers of one's own, each in a block of its own. -/
structure Owns (w : World) (base : Nat) (l : List (Value × List Int)) : Prop where
  own : ∀ (i : Nat) (v : Value) (xs : List Int), l[i]? = some (v, xs) → OwI w base v xs
  dis : ∀ (i j : Nat) (v u : Value) (xs ys : List Int), i ≠ j → l[i]? = some (v, xs) → l[j]? = some (u, ys) → Dis v u

theorem Owns.step {w w' : World} {base i : Nat} {l : List (Value × List Int)} {v v' : Value} {xs xs' : List Int} (h : Owns w base l) (hi : l[i]? = some (v, xs)) (hg : w.grownBy w' v.ownBlock) (ho : OwI w' base v' xs')
    (hb : v'.ownBlock = v.ownBlock ∨ ∃ m, v'.ownBlock = some m ∧ w.heap.size ≤ m) : Owns w' base (l.set i (v', xs')) := by
  have hil := (List.getElem?_eq_some_iff.1 hi).1
  have fresh : ∀ (j : Nat) (u : Value) (ys : List Int), i ≠ j → l[j]? = some (u, ys) → Dis v' u := fun j u ys hij hj => by
    rcases hb with hb | ⟨m, hm, hle⟩
    · intro g hg2 hu
      rw [hb] at hg2
      exact h.dis i j v u xs ys hij hi hj g hg2 hu
    · intro g hg2 hu
      rw [hm] at hg2
      cases hg2
      have := own_blk_lt (h.own j u ys hj).2 hu
      omega
  have get : ∀ (j : Nat) (u : Value) (ys : List Int), (l.set i (v', xs'))[j]? = some (u, ys) → (i = j ∧ u = v' ∧ ys = xs') ∨ (i ≠ j ∧ l[j]? = some (u, ys)) := fun j u ys hj => by
    by_cases e : i = j
    · subst e
      rw [List.getElem?_set_self hil] at hj
      simp only [Option.some.injEq, Prod.mk.injEq] at hj
      exact .inl ⟨rfl, hj.1.symm, hj.2.symm⟩
    · rw [List.getElem?_set_ne e] at hj
      exact .inr ⟨e, hj⟩
  refine ⟨fun j u ys hj => ?_, fun j k u t ys zs hjk hj hk => ?_⟩
  · rcases get j u ys hj with ⟨_, rfl, rfl⟩ | ⟨hij, hj⟩
    · exact ho
    · exact (h.own j u ys hj).kept hg (h.dis j i u v ys xs (fun e => hij e.symm) hj hi).keep
  · rcases get j u ys hj with ⟨e1, e2, _⟩ | ⟨hij, hj2⟩
    · rcases get k t zs hk with ⟨e3, _, _⟩ | ⟨_, hk2⟩
      · exact absurd (e1.symm.trans e3) hjk
      · rw [e2]; exact fresh k t zs (by rw [e1]; exact hjk) hk2
    · rcases get k t zs hk with ⟨_, e2, _⟩ | ⟨_, hk2⟩
      · rw [e2]; exact (fresh j u ys hij hj2).symm
      · exact h.dis j k u t ys zs hjk hj2 hk2

theorem Owns.later {w w' : World} {base : Nat} {l : List (Value × List Int)} (h : Owns w base l) (hb : Below w.heap.size w w') : Owns w' base l :=
  ⟨fun i v xs hi => (h.own i v xs hi).later hb, h.dis⟩

theorem Owns.kept {w w' : World} {base b : Nat} {l : List (Value × List Int)} {cs : Array Value} {t : TypeId} {fr : Nat × Nat} (h : Owns w base l) (hg : w.grownBy w' (some b)) (hb : w.heap[b]? = some (.cells cs t fr)) (hne : t ≠ 3) : Owns w' base l :=
  ⟨fun i v xs hi => (h.own i v xs hi).kept hg (.inr (own_ne (h.own i v xs hi).2 hb hne)), h.dis⟩

/-- A fresh row more. -/
theorem Owns.snoc {w w' : World} {base : Nat} {l : List (Value × List Int)} {v : Value} {xs : List Int} (h : Owns w base l) (hb : Below w.heap.size w w') (ho : OwI w' w.heap.size v xs) (hbs : base ≤ w.heap.size) : Owns w' base (l ++ [(v, xs)]) := by
  have hl := h.later hb
  have fr : ∀ (j : Nat) (u : Value) (ys : List Int), l[j]? = some (u, ys) → Dis v u := fun j u ys hj g h1 h2 => by
    have := own_blk ho.2 h1
    have := own_blk_lt (h.own j u ys hj).2 h2
    omega
  have get : ∀ (i : Nat) (u : Value) (ys : List Int), (l ++ [(v, xs)])[i]? = some (u, ys) → l[i]? = some (u, ys) ∨ (i = l.length ∧ u = v ∧ ys = xs) := fun i u ys hi => by
    by_cases hil : i < l.length
    · rw [List.getElem?_append_left hil] at hi
      exact .inl hi
    · rw [List.getElem?_append_right (by omega)] at hi
      rcases e : i - l.length with _ | k
      · rw [e] at hi; simp at hi; exact .inr ⟨by omega, hi.1.symm, hi.2.symm⟩
      · rw [e] at hi; simp at hi
  refine ⟨fun i u ys hi => ?_, fun i j u t ys zs hij hi hj => ?_⟩
  · rcases get i u ys hi with hi | ⟨_, rfl, rfl⟩
    · exact hl.own i u ys hi
    · exact ho.mono hbs
  · rcases get i u ys hi with hi2 | ⟨e1, e2, _⟩
    · rcases get j t zs hj with hj2 | ⟨_, e4, _⟩
      · exact h.dis i j u t ys zs hij hi2 hj2
      · rw [e4]; exact (fr i u ys hi2).symm
    · rcases get j t zs hj with hj2 | ⟨e3, _, _⟩
      · rw [e2]; exact fr j t zs hj2
      · omega

theorem Owns.keptR {w w' : World} {base base2 n : Nat} {e : TypeId} {sz : Nat} {u : Value} {us : List Value} {l : List (Value × List Int)} (h : Owns w base l) (hg : w.grownBy w' u.ownBlock) (hr : w.ownsRow base2 e sz u n us) (hne : 3 ≠ e) : Owns w' base l :=
  ⟨fun i v xs hi => (h.own i v xs hi).kept hg (ownsRow_apart (h.own i v xs hi).2 hr hne), h.dis⟩

end Go.Proofs.YtoapgbaibpkckaaGreatDoor

/- Pairs of one's own in memory; Of of package pairs, plainly. -/
namespace Go.Proofs.YtoapgbaibpkckaaGreatDoor
open Go.RowKit Go.Maps Go.BigFrame

/-- The rows of a list of pairs, one behind the other. -/
def flat13 (vs : List (Value × Value)) (l : List Rl) : List (Value × List Int) := (vs.zip l).flatMap fun x => [(x.1.1, x.2.1), (x.1.2, x.2.2)]

theorem flat13_snoc {vs : List (Value × Value)} {l : List Rl} (h : vs.length = l.length) (p : Value × Value) (r : Rl) : flat13 (vs ++ [p]) (l ++ [r]) = flat13 vs l ++ [(p.1, r.1)] ++ [(p.2, r.2)] := by
  unfold flat13
  rw [List.zip_append h, List.flatMap_append]
  simp

/-- A list of pairs of one's own, with rows of one's own. -/
structure Pa13 (w0 w : World) (v : Value) (vs : List (Value × Value)) (l : List Rl) : Prop where
  bel : Below w0.heap.size w0 w
  row : w.ownsRow w0.heap.size 38 2 v l.length (prC vs)
  len : vs.length = l.length
  own : Owns w w0.heap.size (flat13 vs l)

theorem Pa13.later {w0 w w' : World} {v : Value} {vs : List (Value × Value)} {l : List Rl} (h : Pa13 w0 w v vs l) (hb : Below w.heap.size w w') : Pa13 w0 w' v vs l :=
  ⟨below_step h.bel hb, ownsRow_later h.row hb, h.len, h.own.later hb⟩

theorem own_lt13 {w0 w : World} {v : Value} {vs : List (Value × Value)} {l : List Rl} (h : Pa13 w0 w v vs l) {j : Nat} (hj : v.ownBlock = some j) : j < w.heap.size := by
  rcases h.row.2 with ⟨rfl, _⟩ | ⟨g, cap, cur, rfl, _, hg, _⟩
  · cases hj
  · cases hj
    exact (Array.getElem?_eq_some_iff.1 hg).1

theorem Pa13.shape {w0 w : World} {v : Value} {vs : List (Value × Value)} {l : List Rl} (h : Pa13 w0 w v vs l) : ∃ ao c, v = .slice ao l.length c ∧ l.length ≤ c ∧ c ≤ maxLen := by
  rcases h.row.2 with ⟨rfl, h0⟩ | ⟨g, cap, cur, rfl, _, _, hc, hm, _⟩
  · exact ⟨none, 0, by rw [h0], by omega, by simp [maxLen]⟩
  · exact ⟨_, cap, rfl, hc, hm⟩

theorem Pa13.nil {w0 w : World} (hb : Below w0.heap.size w0 w) : Pa13 w0 w (.slice none 0 0) [] [] :=
  ⟨hb, World.ownsRow_nil _ _ _ _, rfl, ⟨fun i v xs hi => by simp [flat13] at hi, fun i j v u xs ys _ hi _ => by simp [flat13] at hi⟩⟩

theorem flat13_at : ∀ {vs : List (Value × Value)} {l : List Rl} {k : Nat} {p : Value × Value} {r : Rl}, vs[k]? = some p → l[k]? = some r → (flat13 vs l)[2 * k]? = some (p.1, r.1) ∧ (flat13 vs l)[2 * k + 1]? = some (p.2, r.2)
  | [], _, k, p, r, h, _ => by simp at h
  | _ :: _, [], k, p, r, _, h => by simp at h
  | q :: vs, s :: l, 0, p, r, h, h' => by
    simp only [List.getElem?_cons_zero, Option.some.injEq] at h h'
    subst h h'
    exact ⟨rfl, rfl⟩
  | q :: vs, s :: l, k + 1, p, r, h, h' => by
    have ih := flat13_at (vs := vs) (l := l) (k := k) (by simpa using h) (by simpa using h')
    have e : flat13 (q :: vs) (s :: l) = (q.1, s.1) :: (q.2, s.2) :: flat13 vs l := rfl
    rw [e, show 2 * (k + 1) = 2 * k + 1 + 1 by omega]
    exact ih

/-- Read as a list of rules. -/
theorem Pa13.ru {w0 w : World} {v : Value} {vs : List (Value × Value)} {l : List Rl} (h : Pa13 w0 w v vs l) (hl : ∀ r ∈ l, r.1.length ≤ 1048576 ∧ r.2.length ≤ 1048576) : RU w v l := by
  rcases h.row.2 with ⟨rfl, h0⟩ | ⟨g, cap, cur, rfl, hb, hg, hc, hm, hs, ht⟩
  · obtain rfl : l = [] := List.eq_nil_of_length_eq_zero h0
    exact Row.nil (by simp [maxLen])
  · refine ⟨_, cap, rfl, hc, hm, fun _ => ⟨g, 0, rfl, (Array.getElem?_eq_some_iff.1 hg).1, fun k r hk => ?_⟩⟩
    have hlt := (List.getElem?_eq_some_iff.1 hk).1
    have hlv : k < vs.length := by rw [h.len]; exact hlt
    obtain ⟨q1, q2⟩ := prC_at vs k vs[k] (List.getElem?_eq_getElem hlv)
    obtain ⟨f1, f2⟩ := flat13_at (List.getElem?_eq_getElem hlv) hk
    obtain ⟨b1, b2⟩ := hl r (List.mem_of_getElem? hk)
    refine ⟨by omega, by omega, vs[k].1, vs[k].2, ?_, ?_, (h.own.own _ _ _ f1).is, (h.own.own _ _ _ f2).is⟩
    · rw [Nat.zero_add, World.ownsRow.cellAt h.row (k * 2) (by omega)]
      exact q1
    · rw [Nat.zero_add, World.ownsRow.cellAt h.row (k * 2 + 1) (by omega)]
      exact q2

/-- A pair more. -/
theorem Pa13.push (ty : TypeId) {w0 w w1 w2 : World} {v u1 u2 : Value} {vs : List (Value × Value)} {l : List Rl} {L R : List Int} (h : Pa13 w0 w v vs l) (hb1 : Below w.heap.size w w1) (hu1 : OwI w1 w.heap.size u1 L) (hb2 : Below w1.heap.size w1 w2) (hu2 : OwI w2 w1.heap.size u2 R) (hl : (l.length + 1) * 48 ≤ 140737488355328) :
    ∃ v' w', (Builtin.append_ #[30, 30] ty #[v, .slice (some ⟨w2.heap.size, 0, none⟩) 1 1]).run Tryz.prog (w2.alloc (.cells #[u1, u2] 38)) = .ok v' w' ∧ Pa13 w0 w' v' (vs ++ [(u1, u2)]) (l ++ [(L, R)]) ∧ (w2.alloc (.cells #[u1, u2] 38)).grownBy w' v.ownBlock ∧ (v'.ownBlock = v.ownBlock ∨ v'.ownBlock = some (w2.heap.size + 1)) := by
  obtain ⟨i1, hi1, hy0, hy1, hy2⟩ := info_parts info_rule
  have h2 := (h.later hb1).later hb2
  have h3 := h2.later (below_alloc (.cells #[u1, u2] 38))
  obtain ⟨v', w', hr, g2, g3, _, g4⟩ := run_append_own_at (P := Tryz.prog) (w2.alloc (.cells #[u1, u2] 38)) w0.heap.size 30 ty 38 i1 _ 2 48 under_rulesU hi1 hy0 hy1 hy2 rfl (by decide) v l.length (prC vs) h3.row ⟨w2.heap.size, 0, none⟩ 1 1 [u1, u2] rfl
    (fun j y hj => by
      rw [Addr.add_lit, Nat.zero_add]
      match j, hj with
      | 0, hj => simp at hj; subst hj; exact cell_new rfl
      | 1, hj => simp at hj; subst hj; exact cell_new rfl
      | j + 2, hj => simp at hj) (fun y hy => by
      simp at hy
      rcases hy with rfl | rfl
      · exact is_one hu1.is
      · exact is_one hu2.is) (by unfold maxLen; omega) (by omega) h3.bel.size
  have hO1 := h.own.snoc hb1 hu1 h.bel.size
  have hO2 := hO1.snoc hb2 hu2 (Nat.le_trans h.bel.size hb1.size)
  have hO := (hO2.later (below_alloc (.cells #[u1, u2] 38))).keptR g3 h3.row (by decide)
  refine ⟨v', w', hr, ⟨h3.bel.grown g3 h3.bel.size (fun k hk => own_blk h3.row hk), ?_, by simp [h.len], ?_⟩, g3, by rw [World.size_alloc] at g4; exact g4⟩
  · rw [List.length_append, prC_app]
    exact g2
  · rw [flat13_snoc h.len]
    exact hO

/-- The pairs of a rule, of the first k places of its right side; of a system. -/
def pairsK (sig : List Sy) (D : List Int) (r : Rl) (k : Nat) : List Rl := ((List.range k).filter fun x => decide ((r.2[x]?).getD (-1) ∈ D)).map fun x => (mkL sig r.1, mkL sig ((r.2.drop x).take (fstN sig (r.2.drop x))))

def pairsL (sig : List Sy) (D : List Int) (rs : List Rl) : List Rl := rs.flatMap fun r => pairsK sig D r r.2.length

def ofE13 (sig : List Sy) (rs : List Rl) : Int := if (sysE sig rs).1 = 0 then (if 256 < (pairsL sig (definedL sig rs) rs).length then 2 else 0) else (sysE sig rs).1

def ofL13 (sig : List Sy) (rs : List Rl) : List Rl := if ofE13 sig rs = 0 then pairsL sig (definedL sig rs) rs else []

theorem pairsK_yes {sig : List Sy} {D : List Int} {r : Rl} {k : Nat} {c : Int} (hc : r.2[k]? = some c) (h : c ∈ D) : pairsK sig D r (k + 1) = pairsK sig D r k ++ [(mkL sig r.1, mkL sig ((r.2.drop k).take (fstN sig (r.2.drop k))))] := by
  unfold pairsK
  rw [List.range_succ, List.filter_append, List.map_append]
  congr 1
  simp [hc, h]

theorem pairsK_no {sig : List Sy} {D : List Int} {r : Rl} {k : Nat} {c : Int} (hc : r.2[k]? = some c) (h : c ∉ D) : pairsK sig D r (k + 1) = pairsK sig D r k := by
  unfold pairsK
  rw [List.range_succ, List.filter_append, List.map_append]
  simp [hc, h]

theorem pairsK_mono {sig : List Sy} {D : List Int} {r : Rl} {k n : Nat} (h : k ≤ n) : (pairsK sig D r k).length ≤ (pairsK sig D r n).length := by
  obtain ⟨d, rfl⟩ : ∃ d, n = k + d := ⟨n - k, by omega⟩
  unfold pairsK
  rw [List.length_map, List.length_map, List.range_add, List.filter_append, List.length_append]
  omega

theorem pairsL_at {sig : List Sy} {D : List Int} {rs : List Rl} {i : Nat} {r : Rl} (h : rs[i]? = some r) : pairsL sig D (rs.take (i + 1)) = pairsL sig D (rs.take i) ++ pairsK sig D r r.2.length ∧ (pairsL sig D (rs.take i)).length + (pairsK sig D r r.2.length).length ≤ (pairsL sig D rs).length := by
  have e1 : pairsL sig D (rs.take (i + 1)) = pairsL sig D (rs.take i) ++ pairsK sig D r r.2.length := by
    unfold pairsL
    rw [take_get h, List.flatMap_append]
    simp
  refine ⟨e1, ?_⟩
  have e2 : pairsL sig D rs = pairsL sig D (rs.take (i + 1)) ++ pairsL sig D (rs.drop (i + 1)) := by
    unfold pairsL
    rw [← List.flatMap_append, List.take_append_drop]
  rw [e2, e1, List.length_append, List.length_append]
  omega

theorem pairs_few {sig : List Sy} {D : List Int} {rs : List Rl} (h : ∀ r ∈ rs, r.1.length ≤ 512 ∧ r.2.length ≤ 512) : ∀ p ∈ pairsL sig D rs, p.1.length ≤ 512 ∧ p.2.length ≤ 512 := fun p hp => by
  unfold pairsL pairsK at hp
  obtain ⟨r, hr, hp⟩ := List.mem_flatMap.1 hp
  obtain ⟨x, _, rfl⟩ := List.mem_map.1 hp
  have hm : ∀ t : List Int, (mkL sig t).length = t.length := fun t => by cases t <;> rfl
  obtain ⟨h1, h2⟩ := h r hr
  simp only
  rw [hm, hm, List.length_take, List.length_drop]
  omega

end Go.Proofs.YtoapgbaibpkckaaGreatDoor
