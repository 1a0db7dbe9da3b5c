/- Texts of the proof, one behind the other. -/
import Derived.Test.YtdjmjhlbjcgoiaaGreatDoorOwn20
import Derived.Test.YtdjmjhlbjcgoiaaGreatDoorOwn10
import Derived.Deep.Upon
/- The document's laid of layer 12: an application, and any right row. -/
namespace Go.Proofs.YtdjmjhlbjcgoiaaGreatDoor
open Go.RowKit Go.Maps Go.BigFrame

theorem laidO_ch {sig : List Sy} {l : List Ip} (hin : inE sig l = 0) (hL : ∀ x ∈ l, ∀ m ∈ x.2, Lim m.1) {vs u : List Int} (hu : rowE sig u = 0) {p : List Mn} (h : laidO sig l vs u = some p) : Ch p := by
  have ha := sigE_ok (inE_ok hin).1
  by_cases hf : u.any (farB vs) = true
  · rw [laidO_far hf] at h; cases h
  · have hf2 : u.any (farB vs) = false := by simpa using hf
    rcases ofS_one (sp := spol l) (vp := vCo vs) ha hu with h3 | ⟨q, h3⟩
    · rw [laidO_none h3] at h; cases h
    · rw [laidO_some hf2 h3] at h
      cases h
      refine ofS_ch (sp := spol l) (vp := vCo vs) ha (fun c h0 h1 => (in_spol hin hL h0 h1).2) u [] (row_first.1 hu) (fun c hc h0 => ?_) _ h3 p (by simp)
      rw [List.any_eq_false] at hf2
      have := hf2 c hc
      unfold farB at this
      simp only [Bool.and_eq_true, decide_eq_true_eq, not_and] at this
      exact vpol_ch (by have := this h0; omega)

set_option maxRecDepth 100000 in
set_option maxHeartbeats 6400000 in
theorem laidApp_any {sig : List Sy} {l : List Ip} {vs : List Int} {C : Nat} {us : List (List Int)} (hin : inE sig l = 0) (hL : ∀ x ∈ l, ∀ m ∈ x.2, Lim m.1) (hcs : C < sig.length) (hul : us.length = arN sig (C : Int)) (hur : ∀ u ∈ us, rowE sig u = 0) (hus : us.length ≤ 1048576) (ih : ∀ u ∈ us, LdC sig l vs u) : LdC sig l vs ((C : Int) :: us.flatten) := by
  intro A w0 w sv lv vv ta cap T z hA hB0 hs hl hv hTe ht
  have ha := sigE_ok (inE_ok hin).1
  obtain ⟨so, sc, rfl, _, _, _⟩ := Row.flat hs
  have hTl : 0 < T.length := by rw [hTe]; simp
  obtain ⟨gt, ot, c', rfl, ht0, htc, hb1, hb2⟩ := ht.at hTl
  obtain ⟨Z, hZ⟩ : ∃ Z, Z = us.flatten ++ z := ⟨_, rfl⟩
  have hT1 : Hid (T.drop 1 = Z) := by show _ = _; rw [hTe, hZ]; rfl
  obtain rfl : c' = (C : Int) := by rw [hTe] at ht0; simpa using ht0.symm
  rw [Nat.add_zero] at htc
  have htc := (Kp.of_below hB0).cell _ _ htc
  obtain ⟨_, capT, hv9, hto, htm, _⟩ := Row.flat ht
  simp only [Value.slice.injEq, true_and] at hv9
  obtain ⟨rfl, rfl⟩ := hv9
  unfold maxLen at htm
  have HS := hid hs
  have HL := hid hl
  have HV := hid hv
  have HT := hid ht
  have HA := hid hA
  have HI := hid ih
  have HB0 := hid hB0
  have HUr := hid hur
  have HZ0 : Hid (Z = us.flatten ++ z) := hid hZ
  have hcd : decide ((C : Int) < 0) = false := by simp
  have HAp : Hid (∀ ps : List (List Mn), us.length = ps.length → (∀ (i : Nat) u p, us[i]? = some u → ps[i]? = some p → laidO sig l vs u = some p) → laidO sig l vs ((C : Int) :: us.flatten) = if compE (spol l (C : Int)) ps = 0 then some (compL (spol l (C : Int)) ps) else none) := fun ps h1 h2 => laidO_app ha (by omega) hul hur h1 h2
  have HBad : Hid (∀ u ∈ us, laidO sig l vs u = none → laidO sig l vs ((C : Int) :: us.flatten) = none) := fun u hu h => laidO_bad ha hur hu h
  have HCh : Hid (∀ u ∈ us, ∀ p, laidO sig l vs u = some p → Ch p) := fun u hu p h => laidO_ch hin hL (hur u hu) h
  have HLs : Hid (∀ m ∈ spol l (C : Int), m.2.length ≤ 4611686018427387904) := fun m hm => by
    have := ((in_spol hin hL (c := (C : Int)) (by omega) (by simpa using hcs)).2.1.lens).2 m hm
    omega
  generalize hLo : laidO sig l vs ((C : Int) :: us.flatten) = Lo at HAp HBad
  obtain ⟨gs, os, sn, ar, rfl, hsm, hsn, hsa, _, _, _⟩ := hs.at hcs
  obtain rfl : ar = (us.length : Int) := by
    rw [hul]
    unfold arN
    rw [Int.toNat_natCast, hsm]
    have := ha _ (List.mem_of_getElem? hsm)
    simp only at this ⊢
    omega
  clear hl hv ht hTe ht0 hA ih hur hZ hs hsm hsn hul hL hin hB0
  go_enter Tryz.func48, Tryz.ntmps48
  go_upto_region 1 with fail
  have hTz : T.length - 1 = Z.length := by have := congrArg List.length hT1.out; rw [List.length_drop] at this; exact this
  go_cut [11] from 22 to 23 (fun x wx => (∃ ra m rc, x = .slice ra m rc ∧ m = Z.length ∧ Is w0 (.slice ra m rc) Z) ∧ wx = w)
  case first =>
    have h9 := is_tail12 HT.out (y := 1) (by omega) hto
    rw [hT1.out] at h9
    have HTz := hid hTz
    clear hTz
    by_cases h1 : cap = 1
    · rw [if_pos h1] at h9
      subst h1
      have h0 : T.length - 1 = 0 := by omega
      have H0 := hid h0
      have H9 := hid h9
      clear h9 h0
      go_wp2
      go_meet
      case rel => exact ⟨⟨_, _, _, rfl, by rw [← HTz.out, H0.out], by have h8 := H9.out; rw [H0.out] at h8; exact h8⟩, by trivial⟩
    · rw [if_neg h1] at h9
      have H9 := hid h9
      clear h9
      go_wp2
      go_meet
      case rel => exact ⟨⟨_, _, _, rfl, HTz.out, H9.out⟩, by trivial⟩
  obtain ⟨⟨ra, m, rc, rfl, rfl, hr⟩, hwx⟩ := hcut
  have hwx' := hwx.symm
  subst hwx'
  clear hwx hTz
  have HR := hid hr
  clear hr
  have HN0 := hid (RP12.new A w)
  obtain ⟨w2, hw2⟩ : ∃ X, X = w.alloc (.cells #[] 31) := ⟨_, rfl⟩
  rw [← hw2] at HN0
  go_wp2
  rw [← hw2]
  clear hw2
  go_loopw [11, 15, 16] (fun r a i wr => ∃ (j : Nat) (vals : List Value) (ps : List (List Mn)), j ≤ us.length ∧ i = .int .i64 j ∧ RP12 A w wr a vals ps ∧ ps.length = j ∧ (∀ (q : Nat) u p, us[q]? = some u → ps[q]? = some p → laidO sig l vs u = some p) ∧ ∃ ra rc Y, r = .slice ra Y.length rc ∧ Y = (us.drop j).flatten ++ z ∧ Is w0 (.slice ra Y.length rc) Y) (fun _ _ i _ => us.length - (intOf i).toNat)
  case atStart => exact ⟨0, [], [], Nat.zero_le _, rfl, HN0.out, rfl, fun q u p _ h => by simp at h, ra, rc, Z, rfl, by rw [List.drop_zero]; exact HZ0.out, HR.out⟩
  case round =>
    clear HN0 HR HZ0 hT1
    obtain ⟨j, vals, ps, hj, rfl, hrp, hpl, hpa, ra2, rc2, Y, rfl, hY, hri⟩ := hrel
    subst hpl
    have HY := hid hY
    clear hY
    have HRP := hid hrp
    have HPa := hid hpa
    have HRI := hid hri
    have HB := hid hrp.bel
    obtain ⟨aa, ac, rfl, hac1, hac2⟩ := hrp.shape
    unfold maxLen at hac2
    have htc2 := (Kp.of_below hrp.bel).cell _ _ htc
    have hsa2 := (Kp.of_below hrp.bel).cell _ _ hsa
    clear hrp hpa hri
    by_cases hlt : ps.length < us.length
    · as_aux_lemma =>
        obtain ⟨u, hu⟩ : ∃ u, us[ps.length]? = some u := ⟨_, List.getElem?_eq_getElem hlt⟩
        have hum := List.mem_of_getElem? hu
        have hdj : decide ((ps.length : Int) < (us.length : Int)) = true := by simpa using hlt
        have hwj : IntKind.i64.wrap ((ps.length : Int) + 1) = ((ps.length + 1 : Nat) : Int) := by rw [IntWalk.i64_in _ ⟨by omega, by omega⟩]; omega
        obtain ⟨Y2, hY2⟩ : ∃ Y2, Y2 = (us.drop (ps.length + 1)).flatten ++ z := ⟨_, rfl⟩
        have hTj : Y = u ++ Y2 := by rw [HY.out, hY2, drop_get hu, List.flatten_cons, List.append_assoc]
        have HY2 := hid hY2
        clear hY2
        have hcall := HI.out u hum (noB A (.slice aa ps.length ac)) w0 wr (.slice (some ⟨gs, os, none⟩) sig.length sc) lv vv ra2 rc2 Y Y2 (fun g hg => by
          unfold noB
          rw [Bool.and_eq_true, decide_eq_true_eq]
          refine ⟨HA.out g (Nat.le_trans HB.out.size hg), fun e => ?_⟩
          have := own_blk_lt HRP.out.row e
          omega) (below_step HB0.out HB.out) (HS.out.kp (Kp.of_below HB.out)) (HL.out.kp (only_to HB.out.size fun g hg hAg => by
          refine ⟨?_, HB.out.block g hg⟩
          unfold noB
          rw [Bool.and_eq_true, decide_eq_true_eq]
          refine ⟨hAg, fun e => ?_⟩
          have := own_blk HRP.out.row e
          omega)) (HV.out.kp (Kp.of_below HB.out)) hTj HRI.out
        have HC := hid hcall
        have HUm := hid hum
        have HUj := hid hu
        clear hcall hTj hum hu
        go_wp2_with fail
        refine HC.out.mono ?_
        rintro e w5 ⟨hb5, hld⟩
        clear HC
        cases hlo : laidO sig l vs u with
        | none =>
          as_aux_lemma =>
            rw [hlo] at hld
            obtain ⟨a, b, rfl⟩ := hld
            have HN := hid (HBad.out u HUm.out hlo)
            have HB5 := hid (below_step HB.out hb5)
            clear hlo hb5 HRP
            go_wp2
            go_ret3
            exact ⟨HB5.out, by rw [HN.out]; exact ⟨_, _, rfl⟩⟩
        | some p =>
          as_aux_lemma =>
            rw [hlo] at hld
            obtain ⟨pa, pn, pc, ra3, rc3, rfl, hms, his⟩ := hld
            obtain ⟨v6, w6, hr6, hrp6⟩ := (HRP.out.later hb5).push 49 hms (by omega)
            have HR6 := hid hr6
            have HRP6 := hid hrp6
            have HPa6 : Hid (∀ (q : Nat) u' p', us[q]? = some u' → (ps ++ [p])[q]? = some p' → laidO sig l vs u' = some p') := fun q u' p' h1 h2 => by
              by_cases hq : q < ps.length
              · rw [List.getElem?_append_left hq] at h2
                exact HPa.out q u' p' h1 h2
              · rw [List.getElem?_append_right (by omega)] at h2
                have hq0 : q - ps.length = 0 := by
                  have := (List.getElem?_eq_some_iff.1 h2).1
                  simp at this
                  omega
                have hqj : q = ps.length := by omega
                subst hqj
                rw [hq0] at h2
                simp at h2
                subst h2
                rw [HUj.out] at h1
                cases h1
                exact hlo
            have HI6 := hid his
            clear hr6 hrp6 hms his hlo hb5 HRP HPa
            go_wp2_with (first
              | (at_builtin; refine wpList_append_run rfl _ _ _ rfl _ _ rfl rfl HR6.out ?_))
            go_roundw
            case rel => exact ⟨ps.length + 1, _, _, hlt, by go_num, HRP6.out, by rw [List.length_append]; rfl, HPa6.out, _, _, Y2, rfl, HY2.out, HI6.out⟩
            case measure => simp only [intOf]; omega
    · as_aux_lemma =>
        have hje : ps.length = us.length := by omega
        have hdj : decide ((ps.length : Int) < (us.length : Int)) = false := by rw [hje]; simp
        obtain rfl : Y = z := by rw [HY.out, hje, List.drop_length, List.flatten_nil, List.nil_append]
        have HJe := hid hje
        clear hje
        have HIz := HRI
        have HLA := hid (HAp.out ps HJe.out.symm HPa.out)
        have HLw := hid (HL.out.kp (only_below HB.out))
        have HPs := hid (HRP.out.ps HA.out)
        have HAw : Hid (∀ g, wr.heap.size ≤ g → A g = true) := fun g hg => HA.out g (Nat.le_trans HB.out.size hg)
        have HLp : Hid (∀ f ∈ ps, ∀ m ∈ f, m.2.length ≤ 4611686018427387904) := fun f hf m hm => by
          obtain ⟨i, hi⟩ := List.getElem?_of_mem hf
          have hil := (List.getElem?_eq_some_iff.1 hi).1
          have hu : us[i]? = some (us[i]'(by have := HJe.out; omega)) := List.getElem?_eq_getElem _
          have := ((HCh.out _ (List.mem_of_getElem? hu) f (HPa.out i _ f hu hi)).lens).2 m hm
          omega
        clear HPa HRI HAp HBad HI HL HRP
        go_wp2_with fail
        refine (refSymA_any A lv l (C : Int) wr HLw.out).mono ?_
        rintro e w5 ⟨v5, rfl, hm5, hw5⟩
        have hw6 := hw5.symm
        subst hw6
        clear hw5
        have HM5 := hid hm5
        clear hm5
        go_wp2_with fail
        refine (refCompose_any A v5 _ (spol l (C : Int)) ps wr HM5.out HPs.out HAw.out HLs.out HLp.out).mono ?_
        rintro e w7 ⟨v7, rfl, hm7, hb7⟩
        obtain ⟨pa, pn, pc, rfl⟩ := hm7.shape
        have HM7 := hid hm7
        have HB7 := hid (below_step HB.out hb7)
        clear hm7 hb7
        by_cases h0 : compE (spol l (C : Int)) ps = 0
        · have hd0 : (compE (spol l (C : Int)) ps == 0) = true := by simpa using h0
          have HLd : Hid (Lo = some (compL (spol l (C : Int)) ps)) := by show _ = _; rw [HLA.out, if_pos h0]
          clear h0 HLA
          go_wp2
          go_ret3
          exact ⟨HB7.out, by rw [HLd.out]; exact ⟨_, _, _, _, _, rfl, HM7.out, HIz.out⟩⟩
        · have hd0 : (compE (spol l (C : Int)) ps == 0) = false := by simpa using h0
          have HLd : Hid (Lo = none) := by show _ = _; rw [HLA.out, if_neg h0]
          clear h0 HLA
          go_wp2
          go_ret3
          exact ⟨HB7.out, by rw [HLd.out]; exact ⟨_, _, rfl⟩⟩

/-- A right row whose variables are numbered. -/
theorem refLaid12_any {sig : List Sy} {l : List Ip} {vs : List Int} (hin : inE sig l = 0) (hL : ∀ x ∈ l, ∀ m ∈ x.2, Lim m.1) (hvl : vs.length ≤ 17592186043904) : ∀ (N : Nat) (u : List Int), u.length ≤ N → rowE sig u = 0 → (∀ c ∈ u, c < 0 → c ∈ vs) → LdC sig l vs u
  | 0, u, hN, hu, _ => by
    obtain rfl := List.eq_nil_of_length_eq_zero (by omega : u.length = 0)
    exact absurd (row_first.1 hu) (by simp [firstT])
  | N + 1, [], _, hu, _ => absurd (row_first.1 hu) (by simp [firstT])
  | N + 1, c :: r, hN, hu, hm => by
    have ha := sigE_ok (inE_ok hin).1
    by_cases hc : c < 0
    · obtain rfl := var12 hu hc
      exact laidVar_any hc (hm c (by simp) hc) hvl
    · obtain ⟨h1, us, h2, rfl, h3⟩ := kids12 ha hu hc
      obtain ⟨C, rfl⟩ : ∃ C : Nat, c = (C : Int) := ⟨c.toNat, by omega⟩
      refine laidApp_any hin hL (by simpa using h1) h2 h3 ?_ fun u hum => ?_
      · rw [h2]
        unfold arN
        cases hsx : sig[(C : Int).toNat]? with
        | none => simp
        | some s =>
          have := ha s (List.mem_of_getElem? hsx)
          simp only
          omega
      · have hsub : ∀ x ∈ u, x ∈ us.flatten := fun x hx => List.mem_flatten.2 ⟨u, hum, hx⟩
        have hle := (List.sublist_flatten_of_mem hum).length_le
        rw [List.length_cons] at hN
        exact refLaid12_any hin hL hvl N u (by omega) (h3 u hum) fun x hx h0 => hm x (List.mem_cons_of_mem _ (hsub x hx)) h0

end Go.Proofs.YtdjmjhlbjcgoiaaGreatDoor

/- The document's Falls of layer 12. -/
namespace Go.Proofs.YtdjmjhlbjcgoiaaGreatDoor
open Go.RowKit Go.Maps Go.BigFrame

/-- Two terms whose variables are numbered together: both tell the same, or both that something is too big. -/
theorem laid_two {sig : List Sy} (ha : ArOk sig) {l : List Ip} {a b : List Int} (hra : rowE sig a = 0) (hrb : rowE sig b = 0) :
    (laidO sig l (metA (metA [] a) b) a = ofV sig l (varsL (a ++ b)) a ∧ laidO sig l (metA (metA [] a) b) b = ofV sig l (varsL (a ++ b)) b) ∨
      ((laidO sig l (metA (metA [] a) b) a = none ∨ laidO sig l (metA (metA [] a) b) b = none) ∧ ofV sig l (varsL (a ++ b)) a = none ∧ ofV sig l (varsL (a ++ b)) b = none) := by
  rw [← metA_app]
  have hv : varsL (a ++ b) = (metA [] (a ++ b)).map fun x => -1 - x := rfl
  have hm : ∀ c, c ∈ a ++ b → c < 0 → c ∈ metA [] (a ++ b) := fun c hc h0 => (metA_mem (a ++ b) [] c).2 (.inr ⟨hc, h0⟩)
  by_cases h : (metA [] (a ++ b)).length ≤ 512
  · exact .inl ⟨laidO_few ha hra h fun c hc h0 => hm c (List.mem_append_left _ hc) h0, laidO_few ha hrb h fun c hc h0 => hm c (List.mem_append_right _ hc) h0⟩
  · have hl : (metA [] (a ++ b))[(metA [] (a ++ b)).length - 1]? = some ((metA [] (a ++ b))[(metA [] (a ++ b)).length - 1]'(by omega)) := List.getElem?_eq_getElem (by omega)
    have hn := met_once (a ++ b) [] List.nodup_nil
    have h5 : 512 < (varsL (a ++ b)).length := by rw [hv, List.length_map]; omega
    refine .inr ⟨?_, ofV_many h5, ofV_many h5⟩
    rcases (metA_mem (a ++ b) [] _).1 (List.mem_of_getElem? hl) with h9 | ⟨h9, h10⟩
    · cases h9
    · rcases List.mem_append.1 h9 with h9 | h9
      · exact .inl (laidO_far (last_far hn (by omega) hl h9 h10))
      · exact .inr (laidO_far (last_far hn (by omega) hl h9 h10))

theorem fallP_ref {p q : List Mn} (hp : Ch p) (hq : Ch q) : fallP p q = if greaterR p q = true then 2 else if atLeastR p q = true then 1 else 0 := by
  unfold fallP
  rw [greater_eq (fun _ => hp.1) (fun _ => hq.1), atLeast_eq (fun _ => hp.1) (fun _ => hq.1)]

theorem true_kp (w : World) : Kp w (onlyY (fun _ => true) w) := only_old fun _ _ => rfl

set_option maxRecDepth 100000 in
set_option maxHeartbeats 6400000 in
theorem refFalls12_any (sv lv av bv : Value) (sig : List Sy) (l : List Ip) (a b : List Int) (w : World) (hs : Sg w sv sig) (hl : Ins w lv l) (ha : Is w av a) (hb : Is w bv b) (hla : a.length * 24 ≤ 70368744175616) (hlb : b.length * 24 ≤ 70368744175616) :
    Calls Tryz.prog 20 #[sv, lv, .agg #[av, bv]] w fun e w' => e = .returned (.tuple #[.int .i64 (fallN sig l a b), .int .i64 (fallE sig l a b)]) ∧ Below w.heap.size w w' := by
  obtain ⟨ao, ac, rfl, hac, hacm, _⟩ := Row.flat ha
  obtain ⟨bo, bc, rfl, hbc, hbcm, _⟩ := Row.flat hb
  have hlim := hl.lim
  have HS := hid hs
  have HL := hid hl
  have HA := hid ha
  have HB := hid hb
  clear hs hl ha hb
  have hb0 := below_alloc (w := w) (.cells #[.slice ao a.length ac, .slice bo b.length bc] 41)
  have hc0 : (w.alloc (.cells #[.slice ao a.length ac, .slice bo b.length bc] 41)).cell? ⟨w.heap.size, 0, none⟩ = some (.slice ao a.length ac) := cell_new rfl
  have hc1 : (w.alloc (.cells #[.slice ao a.length ac, .slice bo b.length bc] 41)).cell? ⟨w.heap.size, 1, none⟩ = some (.slice bo b.length bc) := cell_new rfl
  obtain ⟨w0, hw0⟩ : ∃ X, X = w.alloc (.cells #[.slice ao a.length ac, .slice bo b.length bc] 41) := ⟨_, rfl⟩
  rw [← hw0] at hb0 hc0 hc1
  have B0 := hid hb0
  have K0 := hid hc0
  have K1 := hid hc1
  clear hb0 hc0 hc1
  go_enter Tryz.func20, Tryz.ntmps20
  go_wp2_with fail
  rw [← hw0]
  clear hw0
  refine (refCheck12_any _ _ sig l w0 (HS.out.kp (Kp.of_below B0.out)) (HL.out.kp (Kp.of_below B0.out))).mono ?_
  rintro e w1 ⟨rfl, hb1⟩
  have B1 := hid (below_step B0.out hb1)
  have k0 := (Kp.of_below hb1).cell _ _ K0.out
  have k1 := (Kp.of_below hb1).cell _ _ K1.out
  clear hb1
  by_cases hin : inE sig l = 0
  · have hd0 : (inE sig l != 0) = false := by simpa using hin
    go_wp2_with fail
    refine (refCheck_any _ _ sig a w1 (HS.out.kp (Kp.of_below B1.out)) (HA.out.kp (Kp.of_below B1.out)) (by omega)).mono ?_
    rintro e w2 ⟨rfl, hb2⟩
    have B2 := hid (below_step B1.out hb2)
    have k0 := (Kp.of_below hb2).cell _ _ k0
    have k1 := (Kp.of_below hb2).cell _ _ k1
    clear hb2
    by_cases hta : termE sig a = 0
    · have hd1 : (termE sig a != 0) = false := by simpa using hta
      go_wp2_with fail
      refine (refCheck_any _ _ sig b w2 (HS.out.kp (Kp.of_below B2.out)) (HB.out.kp (Kp.of_below B2.out)) (by omega)).mono ?_
      rintro e w3 ⟨rfl, hb3⟩
      have B3 := hid (below_step B2.out hb3)
      have k0 := (Kp.of_below hb3).cell _ _ k0
      have k1 := (Kp.of_below hb3).cell _ _ k1
      clear hb3
      by_cases htb : termE sig b = 0
      · have hd2 : (termE sig b != 0) = false := by simpa using htb
        have har := sigE_ok (inE_ok hin).1
        have hra := (term_parts hta).2
        have hrb := (term_parts htb).2
        have HTw := hid (laid_two har (l := l) hra hrb)
        obtain ⟨vs, hvs⟩ : ∃ vs, vs = metA (metA [] a) b := ⟨_, rfl⟩
        rw [← hvs] at HTw
        have hvl : vs.length ≤ a.length + b.length := by
          have h1 := metA_len b (metA [] a)
          have h2 := metA_len a []
          rw [hvs]
          simp only [List.length_nil] at h2
          omega
        have hma : ∀ c ∈ a, c < 0 → c ∈ vs := fun c hc h0 => by rw [hvs, metA_mem]; exact .inl ((metA_mem a [] c).2 (.inr ⟨hc, h0⟩))
        have hmb : ∀ c ∈ b, c < 0 → c ∈ vs := fun c hc h0 => by rw [hvs, metA_mem]; exact .inr ⟨hc, h0⟩
        have HLa := hid (refLaid12_any hin hlim (by omega) a.length a (Nat.le_refl _) hra hma)
        have HLb := hid (refLaid12_any hin hlim (by omega) b.length b (Nat.le_refl _) hrb hmb)
        have HCa : Hid (∀ p, laidO sig l vs a = some p → Ch p) := fun p h => laidO_ch hin hlim hra h
        have HCb : Hid (∀ p, laidO sig l vs b = some p → Ch p) := fun p h => laidO_ch hin hlim hrb h
        have HF : Hid (fallE sig l a b = ovE2 (ofV sig l (varsL (a ++ b)) a) (ofV sig l (varsL (a ++ b)) b)) := by show _ = _; rw [fallE_out hin, if_pos hta, if_pos htb]
        have HFN : Hid (fallE sig l a b = 0 → fallN sig l a b = fallP (ovL (ofV sig l (varsL (a ++ b)) a)) (ovL (ofV sig l (varsL (a ++ b)) b))) := fun h => by unfold fallN; rw [if_pos h]
        have HFZ : Hid (¬ fallE sig l a b = 0 → fallN sig l a b = 0) := fun h => fallN_zero h
        generalize ofV sig l (varsL (a ++ b)) a = Oa at HTw HF HFN
        generalize ofV sig l (varsL (a ++ b)) b = Ob at HTw HF HFN
        have HVs := hid hvs
        clear hvs hma hmb har hra hrb
        go_upto_region 10 with fail
        go_cut [9] from 35 to 40 (fun x wx => Below w3.heap.size w3 wx ∧ Is wx x vs ∧ ∃ vo vc, x = .slice vo vs.length vc)
        case first =>
          have hS : w3.cell? ⟨w.heap.size, 0, none⟩ = some (.slice ao a.length ac) ∧ w3.cell? ⟨w.heap.size, 1, none⟩ = some (.slice bo b.length bc) := ⟨k0, k1⟩
          have HS3 := HA.out.kp (Kp.of_below B3.out)
          have HS4 := HB.out.kp (Kp.of_below B3.out)
          obtain ⟨x0, hx0⟩ : ∃ X, X = w3.drew := ⟨_, rfl⟩
          have j0 : Below w3.heap.size w3 x0 := by rw [hx0]; exact (Below.refl _ _).drew
          refine wp_region_held_drew (S := fun W => W.cell? ⟨w.heap.size, 0, none⟩ = some (.slice ao a.length ac) ∧ W.cell? ⟨w.heap.size, 1, none⟩ = some (.slice bo b.length bc)) (by kernel_rfl) (by exact hS) (fun _ => ?_)
          rw [← hx0]
          replace hS : x0.cell? ⟨w.heap.size, 0, none⟩ = some (.slice ao a.length ac) ∧ x0.cell? ⟨w.heap.size, 1, none⟩ = some (.slice bo b.length bc) := ⟨(Kp.of_below j0).cell _ _ k0, (Kp.of_below j0).cell _ _ k1⟩
          clear hx0
          refine wpAnyH_take (i := 0) (v := .pointer (some ⟨w.heap.size, 0, none⟩)) rfl (by kernel_rfl) (by kernel_rfl) (by kernel_rfl) (fun _ _ _ h => h) (Or.inl ⟨by kernel_rfl, fun w' h => by go_simp⟩) hS ?_
          (try simp only [List.getElem_toArray]); (try simp only [List.getElem_cons_succ]); (try simp only [List.getElem_cons_zero]); (try simp only [Act.put]); (try simp only [List.setIfInBounds_toArray]); (try simp only [List.set_cons_zero, List.set_cons_succ])
          refine wpAnyH_take (i := 1) (v := .slice ao a.length ac) rfl (by kernel_rfl) (by kernel_rfl) (by kernel_rfl) (fun _ _ _ h => h) (Or.inl ⟨by kernel_rfl, fun w' h => by have hh0 := h.1; go_simp⟩) hS ?_
          (try simp only [List.getElem_toArray]); (try simp only [List.getElem_cons_succ]); (try simp only [List.getElem_cons_zero]); (try simp only [Act.put]); (try simp only [List.setIfInBounds_toArray]); (try simp only [List.set_cons_zero, List.set_cons_succ])
          refine wpAnyH_take (i := 3) (v := .pointer (some ⟨w.heap.size, 1, none⟩)) rfl (by kernel_rfl) (by kernel_rfl) (by kernel_rfl) (fun _ _ _ h => h) (Or.inl ⟨by kernel_rfl, fun w' h => by go_simp⟩) hS ?_
          (try simp only [List.getElem_toArray]); (try simp only [List.getElem_cons_succ]); (try simp only [List.getElem_cons_zero]); (try simp only [Act.put]); (try simp only [List.setIfInBounds_toArray]); (try simp only [List.set_cons_zero, List.set_cons_succ])
          refine wpAnyH_take (i := 4) (v := .slice bo b.length bc) rfl (by kernel_rfl) (by kernel_rfl) (by kernel_rfl) (fun _ _ _ h => h) (Or.inl ⟨by kernel_rfl, fun w' h => by have hh0 := h.2; go_simp⟩) hS ?_
          (try simp only [List.getElem_toArray]); (try simp only [List.getElem_cons_succ]); (try simp only [List.getElem_cons_zero]); (try simp only [Act.put]); (try simp only [List.setIfInBounds_toArray]); (try simp only [List.set_cons_zero, List.set_cons_succ])
          refine wpAnyH_ready (rs := [2]) (by kernel_rfl) (by simp) (AllReadyH.cons rfl (fun K hK => ?_) AllReadyH.nil)
          go_simp
          refine (refMet12_any (.slice none 0 0) _ [] a x0 x0 ⟨fun k x hk => by simp at hk, rfl, .inl ⟨rfl, rfl⟩⟩ (HS3.kp (Kp.of_below j0)) (Below.refl _ _) (by simp; omega)).mono ?_
          rintro e x1 ⟨v1, rfl, ho1, j1⟩
          have hS1 : x1.cell? ⟨w.heap.size, 0, none⟩ = some (.slice ao a.length ac) ∧ x1.cell? ⟨w.heap.size, 1, none⟩ = some (.slice bo b.length bc) := ⟨(Kp.of_below j1).cell _ _ hS.1, (Kp.of_below j1).cell _ _ hS.2⟩
          refine hK.out _ _ hS1 (fun _ => ?_)
          clear hK K hS
          have hS := hS1
          (try simp only [List.getElem_toArray]); (try simp only [List.getElem_cons_succ]); (try simp only [List.getElem_cons_zero]); (try simp only [Act.put]); (try simp only [List.setIfInBounds_toArray]); (try simp only [List.set_cons_zero, List.set_cons_succ])
          refine wpAnyH_ready (rs := [5]) (by kernel_rfl) (by simp) (AllReadyH.cons rfl (fun K hK => ?_) AllReadyH.nil)
          go_simp
          refine (refMet12_any v1 _ (metA [] a) b x0 x1 ho1 (HS4.kp (Kp.of_below j0)) j1 (by have := metA_len a []; simp only [List.length_nil] at this; omega)).mono ?_
          rintro e x2 ⟨v2, rfl, ho2, j2⟩
          have hS2 : x2.cell? ⟨w.heap.size, 0, none⟩ = some (.slice ao a.length ac) ∧ x2.cell? ⟨w.heap.size, 1, none⟩ = some (.slice bo b.length bc) := ⟨(Kp.of_below j2).cell _ _ ((Kp.of_below j0).cell _ _ k0), (Kp.of_below j2).cell _ _ ((Kp.of_below j0).cell _ _ k1)⟩
          refine hK.out _ _ hS2 (fun _ => ?_)
          clear hK K hS
          have hS := hS2
          (try simp only [List.getElem_toArray]); (try simp only [List.getElem_cons_succ]); (try simp only [List.getElem_cons_zero]); (try simp only [Act.put]); (try simp only [List.setIfInBounds_toArray]); (try simp only [List.set_cons_zero, List.set_cons_succ])
          refine wpAnyH_take (i := 6) (v := v2) rfl (by kernel_rfl) (by kernel_rfl) (by kernel_rfl) (fun _ _ _ h => h) (Or.inl ⟨by kernel_rfl, fun w' h => by go_simp⟩) hS ?_
          (try simp only [List.getElem_toArray]); (try simp only [List.getElem_cons_succ]); (try simp only [List.getElem_cons_zero]); (try simp only [Act.put]); (try simp only [List.setIfInBounds_toArray]); (try simp only [List.set_cons_zero, List.set_cons_succ])
          refine wpAnyH_done (by kernel_rfl) ?_ _
          (try simp only [Act.put]); (try simp only [List.getElem_toArray]); (try simp only [List.getElem_cons_succ, List.getElem_cons_zero]); (try simp only [List.setIfInBounds_toArray]); (try simp only [List.set_cons_succ, List.set_cons_zero])
          rw [← HVs.out] at ho2
          obtain ⟨vo, vc, hv2, _⟩ := ho2.shape
          go_wp2
          go_meet
          case rel => exact ⟨below_step j0 j2, ho2.is, vo, vc, hv2⟩
        obtain ⟨hb4, hvv, vo, vc, rfl⟩ := hcut
        have B4 := hid (below_step B3.out hb4)
        have HVv := hid hvv
        have k0 := (Kp.of_below hb4).cell _ _ k0
        have k1 := (Kp.of_below hb4).cell _ _ k1
        clear hb4 hvv
        obtain ⟨w4, hw4⟩ : ∃ X, X = wc := ⟨_, rfl⟩
        rw [← hw4] at B4 HVv k0 k1 ⊢
        clear hw4
        have HC5 := hid (HLa.out (fun _ => true) w w4 _ lv _ ao ac a [] (fun _ _ => rfl) B4.out (HS.out.kp (Kp.of_below B4.out)) ((HL.out.kp (Kp.of_below B4.out)).kp (true_kp w4)) HVv.out (by simp) HA.out)
        go_wp2_with fail
        refine HC5.out.mono ?_
        rintro e w5 ⟨hb5, hld⟩
        clear HC5 HLa
        have B5 := hid (below_step B4.out hb5)
        have k1 := (Kp.of_below hb5).cell _ _ k1
        have HV5 := hid (HVv.out.kp (Kp.of_below hb5))
        clear hb5 HVv
        have HMz : Hid (∀ p, laidO sig l vs a = some p → ∀ q, laidO sig l vs b = some q → Oa = some p ∧ Ob = some q) := fun p h1 q h2 => by
          rcases HTw.out with ⟨h3, h4⟩ | ⟨h3 | h3, _⟩
          · exact ⟨h3.symm.trans h1, h4.symm.trans h2⟩
          · rw [h3] at h1; cases h1
          · rw [h3] at h2; cases h2
        cases hla0 : laidO sig l vs a with
        | none =>
          as_aux_lemma =>
            rw [hla0] at hld
            obtain ⟨x, y, rfl⟩ := hld
            have HE : Hid (fallE sig l a b = 2) := by
              show _ = _
              rw [HF.out]
              rcases HTw.out with ⟨h3, _⟩ | ⟨_, h3, _⟩
              · rw [← h3, hla0]; rfl
              · rw [h3]; rfl
            have HN : Hid (fallN sig l a b = 0) := HFZ.out (by rw [HE.out]; decide)
            clear hla0
            go_wp2
            go_ret2
            exact ⟨ret2ii12 HN.out.symm HE.out.symm, B5.out⟩
        | some p =>
          as_aux_lemma =>
            rw [hla0] at hld
            obtain ⟨pa, pn, pc, ra, rc, rfl, hms, _⟩ := hld
            have HP := hid (hms.kp (only_kp _ _))
            have HPc := hid (HCa.out p hla0)
            have HLa0 := hid hla0
            clear hla0 hms
            have HC6 := hid (HLb.out (fun _ => true) w w5 _ lv _ bo bc b [] (fun _ _ => rfl) B5.out (HS.out.kp (Kp.of_below B5.out)) ((HL.out.kp (Kp.of_below B5.out)).kp (true_kp w5)) HV5.out (by simp) HB.out)
            go_wp2_with fail
            refine HC6.out.mono ?_
            rintro e w6 ⟨hb6, hld⟩
            clear HC6 HLb
            have B6 := hid (below_step B5.out hb6)
            have HP6 := hid (HP.out.kp (Kp.of_below hb6))
            clear hb6 HP
            cases hlb0 : laidO sig l vs b with
            | none =>
              as_aux_lemma =>
                rw [hlb0] at hld
                obtain ⟨x, y, rfl⟩ := hld
                have HE : Hid (fallE sig l a b = 2) := by
                  show _ = _
                  rw [HF.out]
                  rcases HTw.out with ⟨h3, h4⟩ | ⟨_, h3, _⟩
                  · rw [← h3, ← h4, HLa0.out, hlb0]; rfl
                  · rw [h3]; rfl
                have HN : Hid (fallN sig l a b = 0) := HFZ.out (by rw [HE.out]; decide)
                clear hlb0
                go_wp2
                go_ret2
                exact ⟨ret2ii12 HN.out.symm HE.out.symm, B6.out⟩
            | some q =>
              as_aux_lemma =>
                rw [hlb0] at hld
                obtain ⟨qa, qn, qc, ra2, rc2, rfl, hms, _⟩ := hld
                have HQ := hid (hms.kp (only_kp _ _))
                have HQc := hid (HCb.out q hlb0)
                obtain ⟨ho1, ho2⟩ := HMz.out p HLa0.out q hlb0
                have HE : Hid (fallE sig l a b = 0) := by show _ = _; rw [HF.out, ho1, ho2]; rfl
                have HN : Hid (fallN sig l a b = if greaterR p q = true then 2 else if atLeastR p q = true then 1 else 0) := by show _ = _; rw [HFN.out HE.out, ho1, ho2]; exact fallP_ref HPc.out HQc.out
                have HlP : Hid (∀ m ∈ p, m.2.length ≤ 4611686018427387904) := fun m hm => by have := (HPc.out.lens).2 m hm; omega
                have HlQ : Hid (∀ m ∈ q, m.2.length ≤ 4611686018427387904) := fun m hm => by have := (HQc.out.lens).2 m hm; omega
                clear hlb0 hms ho1 ho2 HMz HCa HCb HTw HF HFN HFZ HPc HQc
                go_wp2_with fail
                refine (refGreater_any _ _ p q w6 HP6.out HQ.out HlP.out HlQ.out).mono ?_
                rintro e w7 ⟨rfl, hb7⟩
                have B7 := hid (below_step B6.out hb7)
                have HP7 := hid (HP6.out.kp (Kp.of_below hb7))
                have HQ7 := hid (HQ.out.kp (Kp.of_below hb7))
                clear hb7 HP6 HQ
                cases hg : greaterR p q with
                | true =>
                  have HN2 : Hid (fallN sig l a b = 2) := by show _ = _; rw [HN.out, hg]; rfl
                  clear hg
                  go_wp2
                  go_ret2
                  exact ⟨ret2ii12 HN2.out.symm HE.out.symm, B7.out⟩
                | false =>
                  have HN2 : Hid (fallN sig l a b = if atLeastR p q = true then 1 else 0) := by show _ = _; rw [HN.out, hg]; rfl
                  clear hg HN
                  go_wp2_with fail
                  refine (refAtLeast_any _ _ p q w7 HP7.out HQ7.out HlP.out HlQ.out).mono ?_
                  rintro e w8 ⟨rfl, hb8⟩
                  have B8 := hid (below_step B7.out hb8)
                  clear hb8
                  cases hg : atLeastR p q with
                  | true =>
                    have HN3 : Hid (fallN sig l a b = 1) := by show _ = _; rw [HN2.out, hg]; rfl
                    clear hg HN2
                    go_wp2
                    go_ret2
                    exact ⟨ret2ii12 HN3.out.symm HE.out.symm, B8.out⟩
                  | false =>
                    have HN3 : Hid (fallN sig l a b = 0) := by show _ = _; rw [HN2.out, hg]; rfl
                    clear hg HN2
                    go_wp2
                    go_ret2
                    exact ⟨ret2ii12 HN3.out.symm HE.out.symm, B8.out⟩
      · have hd2 : (termE sig b != 0) = true := by simpa using htb
        have HF : Hid (fallE sig l a b = termE sig b) := by show _ = _; rw [fallE_out hin, if_pos hta, if_neg htb]
        have HFN : Hid (fallN sig l a b = 0) := fallN_zero (by rw [HF.out]; exact htb)
        go_wp2
        go_ret2
        exact ⟨ret2ii12 HFN.out.symm HF.out.symm, B3.out⟩
    · have hd1 : (termE sig a != 0) = true := by simpa using hta
      have HF : Hid (fallE sig l a b = termE sig a) := by show _ = _; rw [fallE_out hin, if_neg hta]
      have HFN : Hid (fallN sig l a b = 0) := fallN_zero (by rw [HF.out]; exact hta)
      go_wp2
      go_ret2
      exact ⟨ret2ii12 HFN.out.symm HF.out.symm, B2.out⟩
  · have hd0 : (inE sig l != 0) = true := by simpa using hin
    have HF : Hid (fallE sig l a b = inE sig l) := by show _ = _; unfold fallE; rw [if_neg hin]
    have HFN : Hid (fallN sig l a b = 0) := fallN_zero (by rw [HF.out]; exact hin)
    go_wp2
    go_ret2
    exact ⟨ret2ii12 HFN.out.symm HF.out.symm, B1.out⟩

end Go.Proofs.YtdjmjhlbjcgoiaaGreatDoor

/- copied of the law file of layer 12: interpretations of one's own. -/
namespace Go.Proofs.YtdjmjhlbjcgoiaaGreatDoor
open Go.RowKit Go.Maps Go.BigFrame

/-- The reach in bytes of interpretations. -/
def FitN (b : Nat) (l : List Ip) : Prop := l.length * 32 ≤ b ∧ ∀ x ∈ l, Fit b x.2

end Go.Proofs.YtdjmjhlbjcgoiaaGreatDoor

/- same of the law file of layer 12. -/
namespace Go.Proofs.YtdjmjhlbjcgoiaaGreatDoor
open Go.RowKit Go.Maps

set_option maxRecDepth 100000 in
set_option maxHeartbeats 1600000 in
theorem sameNat12_any (v u : Value) (xs ys : List Nat) (w : World) (h : Sl w v xs) (h' : Sl w u ys) :
    Calls Tryz.prog 31 #[v, u] w fun e w' => e = .returned (.bool (decide (xs = ys))) ∧ ∃ n, w' = w.drewN n := by
  obtain ⟨ao, cap, rfl, hao, hca, hcl⟩ := h.flat
  obtain ⟨bo, cap', rfl, hbo, hcb, hcl'⟩ := h'.flat
  unfold maxLen at hca hcb
  clear h h'
  by_cases hl : xs.length = ys.length
  · have hle : ((xs.length : Int) != ys.length) = false := by simp; omega
    go_enter Tryz.func31, Tryz.ntmps31
    go_wp2
    go_loopw [5] (fun i wr => ∃ k : Nat, k ≤ xs.length ∧ i = .int .i64 k ∧ xs.take k = ys.take k ∧ ∃ n, wr = w.drewN n) (fun i _ => xs.length - (intOf i).toNat)
    case atStart => exact ⟨0, Nat.zero_le _, rfl, rfl, 0, rfl⟩
    case round =>
      obtain ⟨k, hk, rfl, ht, n, rfl⟩ := hrel
      have HT : Hid (xs.take k = ys.take k) := ht
      clear ht
      by_cases hlt : k < xs.length
      · obtain ⟨g, off, x, rfl, hx1, hx2, hx3⟩ := hcl k hlt
        obtain ⟨g', off', y, rfl, hy1, hy2, hy3⟩ := hcl' k (by omega)
        have HX : Hid (xs[k]? = some x) := hx1
        have HY : Hid (ys[k]? = some y) := hy1
        have hlt' : k < ys.length := by omega
        clear hx1 hy1 hcl hcl'
        by_cases hxy : x = y
        · subst hxy
          have hxx : ((x : Int) != x) = false := by simp
          go_wp2
          go_quiet (fail)
          go_wp2
          go_roundw
          case rel => exact ⟨k + 1, by omega, by go_num, by rw [take_getY HX.out, take_getY HY.out, HT.out], _, rfl⟩
          case measure => simp [intOf]; omega
        · have hne : ((x : Int) != y) = true := by rw [bne_iff_ne]; omega
          go_wp2
          go_quiet (fail)
          go_wp2
          go_ret
          exact ⟨ret1b (by rw [eq_comm, decide_eq_false_iff_not]; rintro rfl; have := HX.out.symm.trans HY.out; simp at this; exact hxy this), _, World.drewN_drewN _ _ _⟩
      · have hk' : k = xs.length := by omega
        go_wp2
        go_ret
        refine ⟨ret1b ?_, n, rfl⟩
        have := HT.out
        rw [List.take_of_length_le (by omega), List.take_of_length_le (by omega)] at this
        simp [this]
  · have hle : ((xs.length : Int) != ys.length) = true := by rw [bne_iff_ne]; omega
    go_enter Tryz.func31, Tryz.ntmps31
    go_wp2
    go_ret
    exact ⟨ret1b (by rw [eq_comm, decide_eq_false_iff_not]; rintro rfl; exact hl rfl), 0, rfl⟩

theorem drawn_of12 {w wr : World} {n : Nat} (h : wr = w.drewN n) (m : Nat) : ∃ k, wr.drewN m = w.drewN k := ⟨n + m, by rw [h, World.drewN_drewN]⟩

theorem sameNat12_at (B : Bool) (v u : Value) (xs ys : List Nat) (w : World) (hB : decide (xs = ys) = B) (h : Sl w v xs) (h' : Sl w u ys) :
    Calls Tryz.prog 31 #[v, u] w fun e w' => e = .returned (.bool B) ∧ ∃ n, w' = w.drewN n := by
  subst hB
  exact sameNat12_any v u xs ys w h h'

set_option maxRecDepth 100000 in
set_option maxHeartbeats 3200000 in
theorem same12_any (v u : Value) (p q : List Mn) (w : World) (h : Ms w v p) (h' : Ms w u q) :
    Calls Tryz.prog 18 #[v, u] w fun e w' => e = .returned (.bool (decide (p = q))) ∧ ∃ n, w' = w.drewN n := by
  obtain ⟨ao, cap, rfl, hao, hca, q0⟩ := Row.flat h
  obtain ⟨bo, cap', rfl, hbo, hcb, q0'⟩ := Row.flat h'
  unfold maxLen at hca hcb
  have HP : Hid (Ms w (.slice ao p.length cap) p) := h
  have HQ : Hid (Ms w (.slice bo q.length cap') q) := h'
  clear h h' q0 q0'
  by_cases hl : p.length = q.length
  · have hle : ((p.length : Int) != q.length) = false := by simp; omega
    go_enter Tryz.func18, Tryz.ntmps18
    go_wp2
    go_loopw [5] (fun i wr => ∃ k : Nat, k ≤ p.length ∧ i = .int .i64 k ∧ p.take k = q.take k ∧ ∃ n, wr = w.drewN n) (fun i _ => p.length - (intOf i).toNat)
    case atStart => exact ⟨0, Nat.zero_le _, rfl, rfl, 0, rfl⟩
    case round =>
      obtain ⟨k, hk, rfl, ht, n, hw⟩ := hrel
      have HT : Hid (p.take k = q.take k) := ht
      have HW : Hid (wr = w.drewN n) := hw
      have hkp : Kp w wr := by rw [hw]; exact Kp.drewN _ _
      clear ht hw
      by_cases hlt : k < p.length
      · have hlt' : k < q.length := by omega
        obtain ⟨g, off, c, es, a1, c1, a2, c2, rfl, hm1, hc0, hc1, hmo, hl1, hl2, hl3, hl4⟩ := (HP.out.kp hkp).at hlt
        obtain ⟨g', off', d, fs, b1, d1, b2, d2, rfl, hn1, hd0, hd1, hno, hl5, hl6, hl7, hl8⟩ := (HQ.out.kp hkp).at hlt'
        have HX : Hid (p[k]? = some (c, es)) := hm1
        have HY : Hid (q[k]? = some (d, fs)) := hn1
        have HS1 : Hid (Sl wr (.slice a1 c.length c1) c) := hmo.1
        have HS2 : Hid (Sl wr (.slice b1 d.length d1) d) := hno.1
        have HI1 : Hid (Is wr (.slice a2 es.length c2) es) := hmo.2
        have HI2 : Hid (Is wr (.slice b2 fs.length d2) fs) := hno.2
        have HNo : Hid (¬ (c, es) = (d, fs) → decide (p = q) = false) := by
          intro hne
          rw [decide_eq_false_iff_not]
          intro hpq
          rw [hpq] at hm1
          exact hne (Option.some.inj (hm1.symm.trans hn1))
        clear hm1 hn1 hmo hno hkp
        by_cases hcd : c = d
        · have HEq : Hid (decide (c = d) = true) := decide_eq_true hcd
          have HCD : Hid (c = d) := hcd
          clear hcd
          by_cases hlen : es.length = fs.length
          · have hle2 : ((es.length : Int) != fs.length) = false := by simp; omega
            go_wp2
            go_quiet ((go_at_call 31; exact Calls.quiet_of (sameNat12_at _ _ _ c d _ HEq.out (HS1.out.kp (Kp.drewN _ _)) (HS2.out.kp (Kp.drewN _ _)))))
            go_wp2
            go_loopw [6] (fun i ws => ∃ l : Nat, l ≤ es.length ∧ i = .int .i64 l ∧ es.take l = fs.take l ∧ ∃ n, ws = wr.drewN n) (fun i _ => es.length - (intOf i).toNat)
            case atStart => exact ⟨0, Nat.zero_le _, rfl, rfl, _, rfl⟩
            case round =>
              obtain ⟨l, hk2, rfl, ht2, n2, rfl⟩ := hrel
              have HT2 : Hid (es.take l = fs.take l) := ht2
              clear ht2
              by_cases hll : l < es.length
              · have hll' : l < fs.length := by omega
                obtain ⟨g2, o2, x, rfl, hx1, hx2, hx3, hx4⟩ := HI1.out.at hll
                obtain ⟨g3, o3, y, rfl, hy1, hy2, hy3, hy4⟩ := HI2.out.at hll'
                have HXx : Hid (es[l]? = some x) := hx1
                have HYy : Hid (fs[l]? = some y) := hy1
                clear hx1 hy1
                by_cases hxy : x = y
                · subst hxy
                  have hxx : (x != x) = false := by simp
                  go_wp2
                  go_quiet (fail)
                  go_wp2
                  go_roundw
                  case rel => exact ⟨l + 1, by omega, by go_num, by rw [take_getY HXx.out, take_getY HYy.out, HT2.out], _, rfl⟩
                  case measure => simp [intOf]; omega
                · have hne : (x != y) = true := by rw [bne_iff_ne]; exact hxy
                  have HF : Hid (decide (p = q) = false) := HNo.out (fun e => by
                    have e2 : es = fs := congrArg Prod.snd e
                    have := HXx.out.symm.trans ((congrArg (·[l]?) e2).trans HYy.out)
                    exact hxy (Option.some.inj this))
                  go_wp2
                  go_quiet (fail)
                  go_wp2
                  go_ret
                  exact ⟨ret1b HF.out.symm, by first | exact drawn_of12 HW.out _ | (rw [World.drewN_drewN]; exact drawn_of12 HW.out _)⟩
              · have hle3 : l = es.length := by omega
                have HFs : Hid (es = fs) := by
                  have := HT2.out
                  rw [List.take_of_length_le (by omega), List.take_of_length_le (by omega)] at this
                  exact this
                go_wp2
                go_roundw
                case rel => exact ⟨k + 1, by omega, by go_num, by rw [take_getY HX.out, take_getY HY.out, HT.out, HCD.out, HFs.out], drawn_of12 HW.out _⟩
                case measure => simp [intOf]; omega
          · have hle2 : ((es.length : Int) != fs.length) = true := by rw [bne_iff_ne]; omega
            have HF : Hid (decide (p = q) = false) := HNo.out (fun e => hlen (by have e2 : es = fs := congrArg Prod.snd e; rw [e2]))
            go_wp2
            go_quiet ((go_at_call 31; exact Calls.quiet_of (sameNat12_at _ _ _ c d _ HEq.out (HS1.out.kp (Kp.drewN _ _)) (HS2.out.kp (Kp.drewN _ _)))))
            go_wp2
            go_ret
            exact ⟨ret1b HF.out.symm, drawn_of12 HW.out _⟩
        · have HEq : Hid (decide (c = d) = false) := decide_eq_false hcd
          have HF : Hid (decide (p = q) = false) := HNo.out (fun e => hcd (congrArg Prod.fst e))
          clear hcd
          go_wp2
          go_quiet ((go_at_call 31; exact Calls.quiet_of (sameNat12_at _ _ _ c d _ HEq.out (HS1.out.kp (Kp.drewN _ _)) (HS2.out.kp (Kp.drewN _ _)))))
          go_wp2
          go_ret
          exact ⟨ret1b HF.out.symm, drawn_of12 HW.out _⟩
      · have hk' : k = p.length := by omega
        have HF : Hid (decide (p = q) = true) := by
          have := HT.out
          rw [List.take_of_length_le (by omega), List.take_of_length_le (by omega)] at this
          exact decide_eq_true this
        go_wp2
        go_ret
        exact ⟨ret1b HF.out.symm, n, HW.out⟩
  · have hle : ((p.length : Int) != q.length) = true := by rw [bne_iff_ne]; omega
    have HF : Hid (decide (p = q) = false) := decide_eq_false (fun e => hl (by rw [e]))
    go_enter Tryz.func18, Tryz.ntmps18
    go_wp2
    go_ret
    exact ⟨ret1b HF.out.symm, 0, rfl⟩

theorem same12_self (v u : Value) (p : List Mn) (w : World) (h : Ms w v p) (h' : Ms w u p) :
    Calls Tryz.prog 18 #[v, u] w fun e w' => e = .returned (.bool true) ∧ Below w.heap.size w w' :=
  (same12_any v u p p w h h').mono fun _ _ ⟨he, _, hw⟩ => ⟨by rw [he, decide_eq_true rfl], drawn_below hw⟩

end Go.Proofs.YtdjmjhlbjcgoiaaGreatDoor

/- InterpChecks walked. -/
namespace Go.Proofs.YtdjmjhlbjcgoiaaGreatDoor
open Go.RowKit Go.Maps Go.BigFrame

/-- The examples come out true. -/
def Shown12 : Prop := ∀ w : World, Tabs w → Calls Tryz.prog 9 #[] w fun e w' => e = .returned (.bool true) ∧ Below w.heap.size w w'

end Go.Proofs.YtdjmjhlbjcgoiaaGreatDoor

/- InterpFalls walked. -/
namespace Go.Proofs.YtdjmjhlbjcgoiaaGreatDoor
open Go.RowKit Go.Maps Go.BigFrame

set_option maxRecDepth 100000 in
set_option maxHeartbeats 3200000 in
theorem interpFalls_any (hsh : Shown12) (sv lv av bv : Value) (sig : List Sy) (l : List Ip) (a b : List Int) (w : World) (hs : Sg w sv sig) (hl : Ins w lv l) (ha : Is w av a) (hb : Is w bv b) (hT : Tabs w) (hla : a.length * 24 ≤ 70368744175616) (hlb : b.length * 24 ≤ 70368744175616) :
    Calls Tryz.prog 5 #[sv, lv, .agg #[av, bv]] w fun e w' => e = .returned (.bool true) ∧ Below w.heap.size w w' := by
  obtain ⟨ao, ac, rfl, _, _, _⟩ := Row.flat ha
  obtain ⟨bo, bc, rfl, _, _, _⟩ := Row.flat hb
  have hb0 := below_alloc (w := w) (.cells #[.slice ao a.length ac, .slice bo b.length bc] 41)
  have hc0 : (w.alloc (.cells #[.slice ao a.length ac, .slice bo b.length bc] 41)).cell? ⟨w.heap.size, 0, none⟩ = some (.slice ao a.length ac) := cell_new rfl
  have hc1 : (w.alloc (.cells #[.slice ao a.length ac, .slice bo b.length bc] 41)).cell? ⟨w.heap.size, 1, none⟩ = some (.slice bo b.length bc) := cell_new rfl
  obtain ⟨w0, hw0⟩ : ∃ X, X = w.alloc (.cells #[.slice ao a.length ac, .slice bo b.length bc] 41) := ⟨_, rfl⟩
  rw [← hw0] at hb0 hc0 hc1
  have B0 := hid hb0
  have K0 := hid hc0
  have K1 := hid hc1
  clear hb0 hc0 hc1
  have HSh := hid hsh
  have HS := hid hs
  have HL := hid hl
  have HA := hid ha
  have HB := hid hb
  have HT := hid hT
  clear hs hl hT hsh ha hb
  go_enter Tryz.func5, Tryz.ntmps5
  go_wp2_with fail
  rw [← hw0]
  clear hw0
  refine (HSh.out w0 (HT.out.below B0.out)).mono ?_
  rintro e w1 ⟨rfl, hb1⟩
  have B1 := hid (below_step B0.out hb1)
  have k0 := (Kp.of_below hb1).cell _ _ K0.out
  have k1 := (Kp.of_below hb1).cell _ _ K1.out
  clear hb1
  go_wp2_with fail
  refine (falls_any _ _ _ _ sig l a b w1 (HS.out.kp (Kp.of_below B1.out)) (HL.out.kp (Kp.of_below B1.out)) (HA.out.kp (Kp.of_below B1.out)) (HB.out.kp (Kp.of_below B1.out)) (HT.out.below B1.out) hla hlb).mono ?_
  rintro e w2 ⟨rfl, hb2⟩
  have B2 := hid (below_step B1.out hb2)
  have k0 := (Kp.of_below hb2).cell _ _ k0
  have k1 := (Kp.of_below hb2).cell _ _ k1
  clear hb2
  go_wp2_with fail
  refine (refFalls12_any _ _ _ _ sig l a b w2 (HS.out.kp (Kp.of_below B2.out)) (HL.out.kp (Kp.of_below B2.out)) (HA.out.kp (Kp.of_below B2.out)) (HB.out.kp (Kp.of_below B2.out)) hla hlb).mono ?_
  rintro e w3 ⟨rfl, hb3⟩
  have B3 := hid (below_step B2.out hb3)
  clear hb3
  generalize fallN sig l a b = n
  generalize fallE sig l a b = m
  have h1 : (n == n) = true := by simp
  have h2 : (m == m) = true := by simp
  go_wp2
  go_ret
  exact ⟨rfl, B3.out⟩

end Go.Proofs.YtdjmjhlbjcgoiaaGreatDoor
