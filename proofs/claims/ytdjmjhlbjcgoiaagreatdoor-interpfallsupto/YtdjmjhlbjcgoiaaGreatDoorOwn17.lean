/- Texts of the proof, one behind the other. -/
import Derived.Test.YtdjmjhlbjcgoiaaGreatDoorOwn16
import Derived.Test.YtdjmjhlbjcgoiaaGreatDoorOwn4
import Derived.Test.YtdjmjhlbjcgoiaaGreatDoorOwn5
import Derived.Deep.Slices
import Derived.Sort.QuietTacIn
import Derived.Sort.CutIn
/- What the document's Compose answers. -/
namespace Go.Proofs.YtdjmjhlbjcgoiaaGreatDoor
open Go.RowKit Go.Maps

theorem nought_takeM {es : List Int} : ∀ {fs : List (List Mn)} {l : Nat} {e : Int} {f : List Mn}, es[l]? = some e → fs[l]? = some f → noughtB (es.take (l + 1)) fs = (noughtB (es.take l) fs || (decide (0 < e) && f.length == 0)) := by
  induction es with
  | nil => intro fs l e f h; simp at h
  | cons a es ih =>
    intro fs l e f h h'
    cases fs with
    | nil => simp at h'
    | cons b fs =>
      have hc : ∀ (n : Int) (es : List Int), noughtB (n :: es) (b :: fs) = (decide (0 < n) && b.length == 0 || noughtB es fs) := fun _ _ => rfl
      cases l with
      | zero =>
        simp at h h'
        subst h; subst h'
        simp [noughtB]
      | succ l =>
        rw [List.take_succ_cons, List.take_succ_cons, hc, hc, ih (by simpa using h) (by simpa using h'), Bool.or_assoc]

theorem checkAll_first : ∀ {args : List (List Mn)} {k : Nat} {f : List Mn}, (∀ (j : Nat) (x : List Mn), j < k → args[j]? = some x → checkE x 9223372036854775807 = 0) → args[k]? = some f → ¬ checkE f 9223372036854775807 = 0 → checkAllE args = checkE f 9223372036854775807
  | [], k, f, _, h, _ => by simp at h
  | a :: args, 0, f, _, h, hn => by
    simp at h
    subst h
    simp only [checkAllE]
    rw [if_neg hn]
  | a :: args, k + 1, f, hz, h, hn => by
    simp only [checkAllE]
    rw [if_pos (hz 0 a (by omega) rfl)]
    exact checkAll_first (k := k) (fun j x hj hx => hz (j + 1) x (by omega) (by simpa using hx)) (by simpa using h) hn

theorem checkAll_zero : ∀ {args : List (List Mn)}, (∀ x ∈ args, checkE x 9223372036854775807 = 0) → checkAllE args = 0
  | [], _ => rfl
  | a :: args, h => by
    simp only [checkAllE]
    rw [if_pos (h a (by simp))]
    exact checkAll_zero fun x hx => h x (List.mem_cons_of_mem _ hx)

/-- What is left of the factors: j times f, and then the others. -/
def contF (f : List Mn) (j : Nat) (es : List Int) (fs : List (List Mn)) (X : List Mn) : List Mn × Int := if (mulN f j X).2 = 0 then facR es fs (mulN f j X).1 else ([], (mulN f j X).2)

theorem contF_zero (f : List Mn) (es : List Int) (fs : List (List Mn)) (X : List Mn) : contF f 0 es fs X = facR es fs X := by
  unfold contF mulN
  rw [if_pos rfl]

theorem contF_succ (f : List Mn) (j : Nat) (es : List Int) (fs : List (List Mn)) (X : List Mn) : contF f (j + 1) es fs X = if mulPE X f = 0 then contF f j es fs (mulPL X f) else ([], mulPE X f) := by
  by_cases h : mulPE X f = 0
  · rw [if_pos h]
    unfold contF
    rw [show mulN f (j + 1) X = mulN f j (mulPL X f) by rw [mulN, if_pos h]]
  · rw [if_neg h]
    unfold contF
    rw [show mulN f (j + 1) X = ([], mulPE X f) by rw [mulN, if_neg h]]
    simp only
    rw [if_neg h]

theorem Ps.limA {w : World} {v : Value} {ps : List (List Mn)} (h : Ps w v ps) : ∀ f ∈ ps, ∀ m ∈ f, Lim m.1 := by
  intro f hf
  obtain ⟨k, hk⟩ := List.mem_iff_getElem?.1 hf
  obtain ⟨ao, cap, rfl, _, _, hx⟩ := Row.flat h
  obtain ⟨g, off, x, _, hk2, u, _, hmo⟩ := hx k (List.getElem?_eq_some_iff.1 hk).1
  rw [hk] at hk2
  cases hk2
  exact hmo.limA

/-- One monomial in a new row. -/
theorem ms_alloc1 {A : Nat → Bool} {w : World} {cv ev : Value} {m : Mn} (h : Mo (onlyY A w) cv ev m) (hA : A w.heap.size = true) (t : TypeId) : Ms (onlyY A (w.alloc (.cells #[cv, ev] t))) (.slice (some ⟨w.heap.size, 0, none⟩) 1 1) [m] := by
  refine ⟨_, 1, rfl, by simp, by unfold maxLen; omega, fun _ => ⟨w.heap.size, 0, rfl, by rw [only_sizeY]; simp, fun k x hk => ?_⟩⟩
  have hk0 : k = 0 := by
    have := (List.getElem?_eq_some_iff.1 hk).1
    simpa using this
  subst hk0
  simp at hk
  subst hk
  refine ⟨cv, ev, ?_, ?_, h.kp (only_below (below_alloc _))⟩
  · rw [only_cellY hA, cell_of_row _ _ _ _ _ _ (heap_alloc_new _ _)]; rfl
  · rw [only_cellY hA, cell_of_row _ _ _ _ _ _ (heap_alloc_new _ _)]; rfl

set_option maxRecDepth 100000 in
set_option maxHeartbeats 6400000 in
theorem refCompose_any (A : Nat → Bool) (v av : Value) (p : List Mn) (args : List (List Mn)) (w : World) (h : Ms (onlyY A w) v p) (h' : Ps (onlyY A w) av args) (hA : ∀ g, w.heap.size ≤ g → A g = true) (hl : ∀ m ∈ p, m.2.length ≤ 4611686018427387904) (hl' : ∀ f ∈ args, ∀ m ∈ f, m.2.length ≤ 4611686018427387904) :
    Calls Tryz.prog 100 #[v, av] w fun e w' => ∃ v', e = .returned (.tuple #[v', .int .i64 (compE p args)]) ∧ Ms (onlyY A w') v' (compL p args) ∧ Below w.heap.size w w' := by
  obtain ⟨ao, cap, rfl, hao, hca, q0⟩ := Row.flat h
  obtain ⟨bo, cap', rfl, hbo, hcb, q0'⟩ := Row.flat h'
  unfold maxLen at hca hcb
  have HP : Hid (Ms (onlyY A w) (.slice ao p.length cap) p) := h
  have HQ : Hid (Ps (onlyY A w) (.slice bo args.length cap') args) := h'
  have HA : Hid (∀ g, w.heap.size ≤ g → A g = true) := hA
  have HL : Hid (∀ m ∈ p, Lim m.1) := h.limA
  have HLa : Hid (∀ f ∈ args, ∀ m ∈ f, Lim m.1) := h'.limA
  have HLo : Hid (∀ m ∈ p, m.2.length ≤ 4611686018427387904) := hl
  have HLf : Hid (∀ f ∈ args, ∀ m ∈ f, m.2.length ≤ 4611686018427387904) := hl'
  clear h h' q0 q0' hl hl' hA
  go_enter Tryz.func100, Tryz.ntmps100
  go_wp2_with fail
  refine (refCheck_anyY _ p 4611686018427387904 _ (HP.out.kp (only_kp A w)) (by omega) (by omega)).mono ?_
  rw [checkR_eq, check_long HLo.out]
  rintro e w1 ⟨rfl, hb1⟩
  have HB1 : Hid (Below w.heap.size w w1) := hb1
  obtain ⟨E, hE⟩ : ∃ E, E = checkE p 9223372036854775807 := ⟨_, rfl⟩
  have HE : Hid (E = checkE p 9223372036854775807) := hE
  rw [← hE]
  clear hE hb1
  by_cases hE0 : E = 0
  rotate_left
  · have hb0 : (E != 0) = true := by rw [bne_iff_ne]; exact hE0
    have hc : compE p args = E := by
      unfold compE
      have : ¬ checkAllE [p] = 0 := fun hh => hE0 (by rw [HE.out]; exact checkAll1_iff.1 hh)
      rw [if_neg this]
      simp only [checkAllE]
      rw [← HE.out, if_neg hE0]
    have HC : Hid (compE p args = E ∧ compL p args = []) := ⟨hc, by unfold compL; rw [hc, if_neg hE0]⟩
    clear hc
    go_wp2
    go_ret2
    exact ⟨_, ret2i HC.out.1.symm, by rw [HC.out.2]; exact Row.nil (Nat.zero_le _), HB1.out⟩
  subst hE0
  have HPol : Hid (Pol p) := Pol.of HL.out (by omega) HE.out.symm
  go_wp2
  go_loopw [7] (fun i wr => ∃ k : Nat, k ≤ args.length ∧ i = .int .i64 k ∧ (∀ (j : Nat) (x : List Mn), j < k → args[j]? = some x → checkE x 9223372036854775807 = 0) ∧ Below w.heap.size w wr) (fun i _ => args.length - (intOf i).toNat)
  case atStart => exact ⟨0, by omega, rfl, fun j x hj => absurd hj (by omega), HB1.out⟩
  case round =>
    obtain ⟨k, hk, rfl, hp, hbl⟩ := hrel
    obtain ⟨wa, rfl⟩ : ∃ X, X = wr := ⟨wr, rfl⟩
    have HPk : Hid (∀ (j : Nat) (x : List Mn), j < k → args[j]? = some x → checkE x 9223372036854775807 = 0) := hp
    have HB2 : Hid (Below w.heap.size w wa) := hbl
    have KW : Kp (onlyY A w) wa := (only_kp A w).trans (Kp.of_below hbl)
    clear hp hbl HB1
    by_cases hlt : k < args.length
    · obtain ⟨g, off, f, a1, c1, rfl, hm1, hc0', hmo, hl1, hl2⟩ := HQ.out.at hlt
      have hc0 := KW.cell _ _ hc0'
      have HX : Hid (args[k]? = some f) := hm1
      have HMo : Hid (Ms wa (.slice a1 f.length c1) f) := hmo.kp KW
      have HLk : Hid (∀ m ∈ f, m.2.length ≤ 4611686018427387904) := HLf.out f (List.mem_of_getElem? hm1)
      clear hm1 hc0' hmo KW
      go_wp2_with fail
      refine (refCheck_anyY _ f 4611686018427387904 _ HMo.out (by omega) (by omega)).mono ?_
      rw [checkR_eq, check_long HLk.out]
      rintro e w9 ⟨rfl, hb9⟩
      have HB9 : Hid (Below w.heap.size w w9) := below_step HB2.out hb9
      clear hb9 hc0
      by_cases hf0 : checkE f 9223372036854775807 = 0
      · have HF0 : Hid (checkE f 9223372036854775807 = 0) := hf0
        rw [hf0]
        clear hf0
        go_wp2
        go_roundw
        case rel =>
          refine ⟨k + 1, by omega, by go_num, fun j x hj hx => ?_, HB9.out⟩
          by_cases hjk : j = k
          · subst hjk; rw [HX.out] at hx; cases hx; exact HF0.out
          · exact HPk.out j x (by omega) hx
        case measure => simp [intOf]; omega
      · obtain ⟨F, hF⟩ : ∃ F, F = checkE f 9223372036854775807 := ⟨_, rfl⟩
        have hc : compE p args = F := by
          unfold compE
          rw [if_pos (checkAll1_iff.2 HE.out.symm), checkAll_first HPk.out HX.out hf0, ← hF]
          rw [← hF] at hf0
          rw [if_neg hf0]
        rw [← hF] at hf0 ⊢
        have HC : Hid (compE p args = F ∧ compL p args = []) := ⟨hc, by unfold compL; rw [hc, if_neg hf0]⟩
        clear hc hF
        go_wp2
        go_ret2
        exact ⟨_, ret2i HC.out.1.symm, by rw [HC.out.2]; exact Row.nil (Nat.zero_le _), HB9.out⟩
    · have HAll : Hid (∀ x ∈ args, checkE x 9223372036854775807 = 0) := fun x hx => by
        obtain ⟨j, hj⟩ := List.mem_iff_getElem?.1 hx
        exact HPk.out j x (by have := (List.getElem?_eq_some_iff.1 hj).1; omega) hj
      have HCh : Hid (∀ f ∈ args, Ch f) := fun f hf => ⟨Pol.of (HLa.out f hf) (by decide) (HAll.out f hf), HAll.out f hf⟩
      clear HPk KW
      go_wp2_with fail
      refine (refCheck_anyY _ p (args.length : Int) _ (HP.out.kp ((only_kp A w).trans (Kp.of_below HB2.out))) (by omega) (by omega)).mono ?_
      rw [checkR_eq]
      rintro e w2 ⟨rfl, hb2⟩
      have HB3 : Hid (Below w.heap.size w w2) := below_step HB2.out hb2
      obtain ⟨F, hF⟩ : ∃ F, F = checkE p (args.length : Int) := ⟨_, rfl⟩
      have HFe : Hid (F = 0 ↔ varsN p ≤ args.length) := by
        show _ ↔ _
        rw [hF]
        exact check_len HE.out.symm
      rw [← hF]
      clear hF hb2 HB2
      by_cases hF0 : F = 0
      rotate_left
      · have hb0 : (F != 0) = true := by rw [bne_iff_ne]; exact hF0
        have hc : compE p args = 21 := by
          unfold compE
          rw [if_pos (checkAll1_iff.2 HE.out.symm), if_pos (checkAll_zero HAll.out), if_neg (fun hh => hF0 (HFe.out.2 hh))]
        have HC : Hid (compE p args = 21 ∧ compL p args = []) := ⟨hc, by unfold compL; rw [hc]; rfl⟩
        clear hc
        go_wp2
        go_ret2
        exact ⟨_, ret2i HC.out.1.symm, by rw [HC.out.2]; exact Row.nil (Nat.zero_le _), HB3.out⟩
      have HV : Hid (varsN p ≤ args.length) := HFe.out.1 hF0
      subst hF0
      clear HFe
      have hcomp : compE p args = (docGo args [] p).2 ∧ ((docGo args [] p).2 = 0 → compL p args = (docGo args [] p).1) ∧ (¬ (docGo args [] p).2 = 0 → compL p args = []) := by
        have h0 := docGo_eq HCh.out HPol.out StY.nil okF_zero keysLe_nil
        have e0 : rowLY [] = [] := rfl
        rw [e0] at h0
        have hc : compE p args = (compGo args [] p).2 := by
          unfold compE
          rw [if_pos (checkAll1_iff.2 HE.out.symm), if_pos (checkAll_zero HAll.out), if_pos HV.out]
        refine ⟨hc.trans h0.1.symm, fun hz => ?_, fun hz => ?_⟩
        · unfold compL
          rw [hc, ← h0.1, if_pos hz, h0.2 hz]
        · unfold compL
          rw [hc, ← h0.1, if_neg hz]
      have HComp : Hid (compE p args = (docGo args [] p).2 ∧ ((docGo args [] p).2 = 0 → compL p args = (docGo args [] p).1) ∧ (¬ (docGo args [] p).2 = 0 → compL p args = [])) := hcomp
      clear hcomp
      go_wp2
      go_loopw [8, 9] (fun x i wr => ∃ (k : Nat) (O : List Mn), k ≤ p.length ∧ i = .int .i64 k ∧ docGo args [] p = docGo args O (p.drop k) ∧ (∀ m ∈ O, m.2.length ≤ 512) ∧ Ms (onlyY A wr) x O ∧ Below w.heap.size w wr) (fun _ i _ => p.length - (intOf i).toNat)
      case atStart => exact ⟨0, [], by omega, rfl, rfl, fun m hm => (by cases hm), Row.nil (Nat.zero_le _), below_step HB3.out (below_alloc _)⟩
      case round =>
        obtain ⟨k, O, hk, rfl, hdo, hOl, hms, hbl⟩ := hrel
        obtain ⟨wA, rfl⟩ : ∃ X, X = wr := ⟨wr, rfl⟩
        have HDo : Hid (docGo args [] p = docGo args O (p.drop k)) := hdo
        have HOl : Hid (∀ m ∈ O, m.2.length ≤ 512) := hOl
        have HMs : Hid (Ms (onlyY A wA) u8 O) := hms
        have HBl : Hid (Below w.heap.size w wA) := hbl
        have KW : Kp (onlyY A w) wA := (only_kp A w).trans (Kp.of_below hbl)
        clear hdo hOl hms hbl HB3
        by_cases hlt : k < p.length
        · obtain ⟨g, off, c, es, a1, c1, a2, c2, rfl, hm1, hc0', hc1', hmm, hl1, hl2, hl3, hl4⟩ := HP.out.at hlt
          have hc0 := KW.cell _ _ hc0'
          have hc1 := KW.cell _ _ hc1'
          have HX : Hid (p[k]? = some (c, es)) := hm1
          have HGm : Hid (GoodM (c, es)) := HPol.out.good (List.mem_of_getElem? hm1)
          have hle : es.length ≤ args.length := varsN_iff.1 HV.out _ (List.mem_of_getElem? hm1)
          have HMo : Hid (Mo (onlyY A w) (.slice a1 c.length c1) (.slice a2 es.length c2) (c, es)) := hmm
          have HIs : Hid (Is wA (.slice a2 es.length c2) es) := hmm.2.kp KW
          have HQr : Hid (Ps wA (.slice bo args.length cap') args) := HQ.out.kp KW
          have HDr : Hid (p.drop k = (c, es) :: p.drop (k + 1)) := drop_getY hm1
          clear hm1 hmm hc0' hc1' KW
          go_wp2
          go_loopw [10, 11] (fun b i ws => ∃ l : Nat, l ≤ es.length ∧ i = .int .i64 l ∧ b = .bool (noughtB (es.take l) args) ∧ ws = wA) (fun _ i _ => es.length - (intOf i).toNat)
          case atStart => exact ⟨0, by omega, rfl, by simp [noughtB], rfl⟩
          case round =>
            obtain ⟨l, hl, rfl, rfl, hw⟩ := hrel
            have hw8 := hw.symm
            subst hw8
            clear hw
            by_cases hll : l < es.length
            · obtain ⟨g2, o2, x, rfl, hx1, hx2, hx3, hx4⟩ := HIs.out.at hll
              obtain ⟨g3, o3, f, b1, d1, rfl, hy1, hy2, hy3, hy4, hy5⟩ := HQr.out.at (k := l) (by omega)
              have hla : l < args.length := by omega
              have HN : Hid (noughtB (es.take (l + 1)) args = (noughtB (es.take l) args || (decide (0 < x) && f.length == 0))) := nought_takeM hx1 hy1
              clear hx1 hy1 hy3
              cases hB : noughtB (es.take l) args
              · rw [hB] at HN
                clear hB
                by_cases hx : 0 < x
                · by_cases hf0 : f.length = 0
                  · have hfb : ((f.length : Int) == 0) = true := by rw [beq_iff_eq]; omega
                    have HN2 : Hid (noughtB (es.take (l + 1)) args = true) := by show _ = _; rw [HN.out]; simp [hx, hf0]
                    clear hf0
                    go_wp2
                    go_roundw
                    case rel => exact ⟨l + 1, by omega, by go_num, by rw [HN2.out], trivial⟩
                    case measure => simp [intOf]; omega
                  · have hfb : ((f.length : Int) == 0) = false := by rw [beq_eq_false_iff_ne]; omega
                    have HN2 : Hid (noughtB (es.take (l + 1)) args = false) := by show _ = _; rw [HN.out]; simp [hf0]
                    clear hf0
                    go_wp2
                    go_roundw
                    case rel => exact ⟨l + 1, by omega, by go_num, by rw [HN2.out], trivial⟩
                    case measure => simp [intOf]; omega
                · have hxd : decide (0 < x) = false := decide_eq_false hx
                  have HN2 : Hid (noughtB (es.take (l + 1)) args = false) := by show _ = _; rw [HN.out]; simp [hxd]
                  go_wp2
                  go_roundw
                  case rel => exact ⟨l + 1, by omega, by go_num, by rw [HN2.out], trivial⟩
                  case measure => simp [intOf]; omega
              · rw [hB] at HN
                clear hB
                have HN2 : Hid (noughtB (es.take (l + 1)) args = true) := by show _ = _; rw [HN.out]; simp
                go_wp2
                go_roundw
                case rel => exact ⟨l + 1, by omega, by go_num, by rw [HN2.out], trivial⟩
                case measure => simp [intOf]; omega
            · have hle2 : es.take l = es := List.take_of_length_le (by omega)
              rw [hle2]
              clear hle2
              cases hN : noughtB es args
              rotate_left
              · have HDo2 : Hid (docGo args [] p = docGo args O (p.drop (k + 1))) := by
                  show _ = _
                  rw [HDo.out, HDr.out, docGo]
                  simp only
                  rw [hN, if_pos rfl]
                clear hN
                go_wp2
                go_roundw
                case rel => exact ⟨k + 1, O, by omega, by go_num, HDo2.out, HOl.out, HMs.out, HBl.out⟩
                case measure => simp [intOf]; omega
              have HDo2 : Hid (docGo args [] p = if (facR es args [(c, [])]).2 = 0 then (if addPE O (facR es args [(c, [])]).1 = 0 then docGo args (addPL O (facR es args [(c, [])]).1) (p.drop (k + 1)) else ([], addPE O (facR es args [(c, [])]).1)) else ([], (facR es args [(c, [])]).2)) := by
                show _ = _
                rw [HDo.out, HDr.out, docGo]
                simp only
                rw [hN, if_neg (by decide)]
              clear hN HDo HDr
              have HBad : Hid (∀ e : Int, ¬ e = 0 → docGo args [] p = ([], e) → compE p args = e ∧ compL p args = []) := fun e he hd => by
                refine ⟨by rw [HComp.out.1, hd], HComp.out.2.2 ?_⟩
                rw [hd]
                exact he
              have HOne : Hid (Ms (onlyY A (wA.alloc (.cells #[.slice a1 c.length c1, .slice none 0 0] 37))) (.slice (some ⟨wA.heap.size, 0, none⟩) 1 1) [(c, [])]) :=
                ms_alloc1 (m := (c, [])) ⟨HMo.out.1.kp (only_below HBl.out), Row.nil (Nat.zero_le _)⟩ (HA.out _ HBl.out.size) _
              go_wp2
              go_loopw [12, 13] (fun y i ws => ∃ (l : Nat) (X : List Mn), l ≤ es.length ∧ i = .int .i64 l ∧ facR es args [(c, [])] = facR (es.drop l) (args.drop l) X ∧ (∀ m ∈ X, m.2.length ≤ 512) ∧ Ms (onlyY A ws) y X ∧ Below wA.heap.size wA ws) (fun _ i _ => es.length - (intOf i).toNat)
              case atStart => exact ⟨0, [(c, [])], by omega, rfl, rfl, fun m hm => (by simp at hm; subst hm; simp), HOne.out, below_alloc _⟩
              case round =>
                obtain ⟨l2, X, hl2, rfl, hfa, hXl, hmy, hby⟩ := hrel
                obtain ⟨wB, rfl⟩ : ∃ X, X = wr := ⟨wr, rfl⟩
                have HFa : Hid (facR es args [(c, [])] = facR (es.drop l2) (args.drop l2) X) := hfa
                have HXl : Hid (∀ m ∈ X, m.2.length ≤ 512) := hXl
                have HMy : Hid (Ms (onlyY A wB) u12 X) := hmy
                have HBy : Hid (Below wA.heap.size wA wB) := hby
                have HBw : Hid (Below w.heap.size w wB) := below_step HBl.out hby
                have hcB := (Kp.of_below hby).cell _ _ hc1
                clear hfa hXl hmy
                by_cases hll2 : l2 < es.length
                · obtain ⟨g2, o2, x, rfl, hx1, hx2, hx3, hx4⟩ := (HIs.out.kp (Kp.of_below hby)).at hll2
                  obtain ⟨g3, o3, f, b1, d1, rfl, hy1, hy2', hy3, hy4, hy5⟩ := HQ.out.at (k := l2) (by omega)
                  have hy2 := ((only_kp A w).trans (Kp.of_below HBw.out)).cell _ _ hy2'
                  have hla2 : l2 < args.length := by omega
                  have hxx := HGm.out.2.2.2 x (List.mem_of_getElem? hx1)
                  have hx0 : 0 ≤ x := hxx.1
                  have HXx : Hid (0 ≤ x ∧ x ≤ 64) := hxx
                  have HMf : Hid (Ms (onlyY A w) (.slice b1 f.length d1) f) := hy3
                  have HFl : Hid (∀ m ∈ f, m.2.length ≤ 4611686018427387904) := HLf.out f (List.mem_of_getElem? hy1)
                  have HFa2 : Hid (facR es args [(c, [])] = contF f (x.toNat - 0) (es.drop (l2 + 1)) (args.drop (l2 + 1)) X) := by
                    show _ = _
                    rw [HFa.out, drop_getY hx1, drop_getY hy1]
                    rfl
                  clear hx1 hy1 hy3 hy2' hby hxx HFa
                  go_wp2
                  go_loopw [12, 14] (fun y i ws => ∃ (n : Nat) (X2 : List Mn), n ≤ x.toNat ∧ i = .int .i64 n ∧ facR es args [(c, [])] = contF f (x.toNat - n) (es.drop (l2 + 1)) (args.drop (l2 + 1)) X2 ∧ (∀ m ∈ X2, m.2.length ≤ 512) ∧ Ms (onlyY A ws) y X2 ∧ Below wB.heap.size wB ws) (fun _ i _ => x.toNat - (intOf i).toNat)
                  case atStart => exact ⟨0, X, by omega, rfl, HFa2.out, HXl.out, HMy.out, Below.refl _ _⟩
                  case round =>
                    obtain ⟨n, X2, hn, rfl, hfa, hXl, hmz, hbz⟩ := hrel
                    obtain ⟨wC, rfl⟩ : ∃ X, X = wr := ⟨wr, rfl⟩
                    have HFc : Hid (facR es args [(c, [])] = contF f (x.toNat - n) (es.drop (l2 + 1)) (args.drop (l2 + 1)) X2) := hfa
                    have HXl2 : Hid (∀ m ∈ X2, m.2.length ≤ 512) := hXl
                    have HMz : Hid (Ms (onlyY A wC) u12 X2) := hmz
                    have HBz : Hid (Below w.heap.size w wC) := below_step HBw.out hbz
                    have HBc : Hid (Below wB.heap.size wB wC) := hbz
                    have hcC := (Kp.of_below hbz).cell _ _ hcB
                    have hxC := (Kp.of_below hbz).cell _ _ hx2
                    have hyC := (Kp.of_below hbz).cell _ _ hy2
                    clear hfa hXl hmz hbz
                    by_cases hnx : (n : Int) < x
                    · go_wp2_with fail
                      refine (refMulP_any A _ _ X2 f _ HMz.out (HMf.out.kp (only_below HBz.out)) (fun g hg => HA.out g (Nat.le_trans HBz.out.size hg)) (fun m hm => Nat.le_trans (HXl2.out m hm) (by omega)) HFl.out).mono ?_
                      rintro e wD ⟨vD, rfl, mD, hbD⟩
                      have HBD : Hid (Below wB.heap.size wB wD) := below_step HBc.out hbD
                      have HBDw : Hid (Below w.heap.size w wD) := below_step HBz.out hbD
                      have hst : contF f (x.toNat - n) (es.drop (l2 + 1)) (args.drop (l2 + 1)) X2 = if mulPE X2 f = 0 then contF f (x.toNat - (n + 1)) (es.drop (l2 + 1)) (args.drop (l2 + 1)) (mulPL X2 f) else ([], mulPE X2 f) := by
                        rw [show x.toNat - n = (x.toNat - (n + 1)) + 1 by omega]
                        exact contF_succ _ _ _ _ _
                      by_cases hme : mulPE X2 f = 0
                      · have HNf : Hid (facR es args [(c, [])] = contF f (x.toNat - (n + 1)) (es.drop (l2 + 1)) (args.drop (l2 + 1)) (mulPL X2 f)) := by show _ = _; rw [HFc.out, hst, if_pos hme]
                        have HMD : Hid (Ms (onlyY A wD) vD (mulPL X2 f)) := mD
                        have HNl : Hid (∀ m ∈ mulPL X2 f, m.2.length ≤ 512) := fun m hm => ((mulPL_lens HMz.out.limA HMf.out.limA).2 m hm).2
                        rw [hme]
                        clear hme hst mD hbD hcC hxC hyC HFc
                        go_wp2
                        go_roundw
                        case rel => exact ⟨n + 1, mulPL X2 f, by omega, by go_num, HNf.out, HNl.out, HMD.out, HBD.out⟩
                        case measure => simp [intOf]; omega
                      · have hfr : facR es args [(c, [])] = ([], mulPE X2 f) := by rw [HFc.out, hst, if_neg hme]
                        have HC : Hid (compE p args = mulPE X2 f ∧ compL p args = []) := HBad.out _ hme (by rw [HDo2.out, hfr]; simp only; rw [if_neg hme])
                        obtain ⟨E2, hE2⟩ : ∃ E2, E2 = mulPE X2 f := ⟨_, rfl⟩
                        rw [← hE2] at HC hme ⊢
                        have hb0 : (E2 != 0) = true := by rw [bne_iff_ne]; exact hme
                        clear hfr hst mD hbD hcC hxC hyC HFc hE2
                        go_wp2
                        go_ret2
                        exact ⟨_, ret2i HC.out.1.symm, by rw [HC.out.2]; exact Row.nil (Nat.zero_le _), HBDw.out⟩
                    · have hnd : decide ((n : Int) < x) = false := decide_eq_false hnx
                      have HNx : Hid (facR es args [(c, [])] = facR (es.drop (l2 + 1)) (args.drop (l2 + 1)) X2) := by
                        show _ = _
                        rw [HFc.out, show x.toNat - n = 0 by omega, contF_zero]
                      go_wp2
                      go_roundw
                      case rel => exact ⟨l2 + 1, X2, by omega, by go_num, HNx.out, HXl2.out, HMz.out, below_step HBy.out HBc.out⟩
                      case measure => simp [intOf]; omega
                · have hfr : facR es args [(c, [])] = (X, 0) := by
                    rw [HFa.out, List.drop_of_length_le (by omega)]
                    rfl
                  have HDo3 : Hid (docGo args [] p = if addPE O X = 0 then docGo args (addPL O X) (p.drop (k + 1)) else ([], addPE O X)) := by
                    show _ = _
                    rw [HDo2.out, hfr]
                    simp only
                    rw [if_pos trivial]
                  have HMs2 : Hid (Ms (onlyY A wB) u8 O) := HMs.out.kp (only_below hby)
                  clear hby hfr HFa
                  go_wp2_with fail
                  refine (refAddP_any A _ _ O X _ HMs2.out HMy.out (fun g hg => HA.out g (Nat.le_trans HBw.out.size hg)) (fun m hm => Nat.le_trans (HOl.out m hm) (by omega)) (fun m hm => Nat.le_trans (HXl.out m hm) (by omega))).mono ?_
                  rintro e wD ⟨vD, rfl, mD, hbD⟩
                  have HBDw : Hid (Below w.heap.size w wD) := below_step HBw.out hbD
                  by_cases hae : addPE O X = 0
                  · have HNd : Hid (docGo args [] p = docGo args (addPL O X) (p.drop (k + 1))) := by show _ = _; rw [HDo3.out, if_pos hae]
                    have HMD : Hid (Ms (onlyY A wD) vD (addPL O X)) := mD
                    have HNl : Hid (∀ m ∈ addPL O X, m.2.length ≤ 512) := fun m hm => ((addPL_lens HMs2.out.limA HMy.out.limA).2 m hm).2
                    rw [hae]
                    clear hae mD hbD hcB
                    go_wp2
                    go_roundw
                    case rel => exact ⟨k + 1, addPL O X, by omega, by go_num, HNd.out, HNl.out, HMD.out, HBDw.out⟩
                    case measure => simp [intOf]; omega
                  · have HC : Hid (compE p args = addPE O X ∧ compL p args = []) := HBad.out _ hae (by rw [HDo3.out, if_neg hae])
                    obtain ⟨E2, hE2⟩ : ∃ E2, E2 = addPE O X := ⟨_, rfl⟩
                    rw [← hE2] at HC hae ⊢
                    have hb0 : (E2 != 0) = true := by rw [bne_iff_ne]; exact hae
                    clear mD hbD hcB hE2
                    go_wp2
                    go_ret2
                    exact ⟨_, ret2i HC.out.1.symm, by rw [HC.out.2]; exact Row.nil (Nat.zero_le _), HBDw.out⟩
        · have hke : k = p.length := by omega
          subst hke
          have hz : docGo args [] p = (O, 0) := by rw [HDo.out, List.drop_of_length_le (Nat.le_refl _)]; rfl
          have HC : Hid (compE p args = 0 ∧ compL p args = O) := by
            refine ⟨by rw [HComp.out.1, hz], ?_⟩
            rw [HComp.out.2.1 (by rw [hz]), hz]
          clear hz HDo KW
          go_wp2
          go_ret2
          exact ⟨_, ret2i HC.out.1.symm, by rw [HC.out.2]; exact HMs.out, HBl.out⟩

end Go.Proofs.YtdjmjhlbjcgoiaaGreatDoor

/- The polynomial of a term, plainly: from the back, with a stack. -/
namespace Go.Proofs.YtdjmjhlbjcgoiaaGreatDoor

/-- The polynomial that is a variable alone. -/
def vpol (k : Nat) : List Mn := [([1], List.replicate k 0 ++ [1])]

/-- A symbol's polynomial. -/
def spol : List Ip → Int → List Mn
  | [], _ => []
  | x :: r, d => if x.1 = d then x.2 else spol r d

/-- A code more, from the back to the front: what begins first stands first. -/
def ofS (sig : List Sy) (sp vp : Int → List Mn) : List Int → Option (List (List Mn))
  | [] => some []
  | c :: u =>
    match ofS sig sp vp u with
    | none => none
    | some st => if c < 0 then some (vp c :: st) else if compE (sp c) (st.take (arN sig c)) = 0 then some (compL (sp c) (st.take (arN sig c)) :: st.drop (arN sig c)) else none

theorem ofS_var {sig : List Sy} {sp vp : Int → List Mn} {c : Int} {u : List Int} {st : List (List Mn)} (h : ofS sig sp vp u = some st) (hc : c < 0) : ofS sig sp vp (c :: u) = some (vp c :: st) := by
  rw [ofS, h]
  simp only [if_pos hc]

theorem ofS_yes {sig : List Sy} {sp vp : Int → List Mn} {c : Int} {u : List Int} {st : List (List Mn)} (h : ofS sig sp vp u = some st) (hc : ¬ c < 0) (h0 : compE (sp c) (st.take (arN sig c)) = 0) :
    ofS sig sp vp (c :: u) = some (compL (sp c) (st.take (arN sig c)) :: st.drop (arN sig c)) := by
  rw [ofS, h]
  simp only [if_neg hc, if_pos h0]

theorem ofS_no {sig : List Sy} {sp vp : Int → List Mn} {c : Int} {u : List Int} {st : List (List Mn)} (h : ofS sig sp vp u = some st) (hc : ¬ c < 0) (h0 : ¬ compE (sp c) (st.take (arN sig c)) = 0) : ofS sig sp vp (c :: u) = none := by
  rw [ofS, h]
  simp only [if_neg hc, if_neg h0]

theorem ofS_none {sig : List Sy} {sp vp : Int → List Mn} {u : List Int} (h : ofS sig sp vp u = none) (c : Int) : ofS sig sp vp (c :: u) = none := by
  rw [ofS, h]

theorem ofS_noneL {sig : List Sy} {sp vp : Int → List Mn} {u : List Int} (h : ofS sig sp vp u = none) : ∀ p : List Int, ofS sig sp vp (p ++ u) = none
  | [] => h
  | c :: p => ofS_none (ofS_noneL h p) c

theorem ofS_len {sig : List Sy} {sp vp : Int → List Mn} : ∀ {u : List Int} {st : List (List Mn)}, ofS sig sp vp u = some st → st.length = (growR sig u).length
  | [], st, h => by cases h; rfl
  | c :: u, st, h => by
    cases hu : ofS sig sp vp u with
    | none => rw [ofS_none hu] at h; cases h
    | some s =>
      have ih := ofS_len hu
      by_cases hc : c < 0
      · rw [ofS_var hu hc] at h
        cases h
        show _ = (growStep sig (growR sig u) c).length
        unfold growStep
        rw [if_pos hc, List.length_append, List.length_cons, ih]
        rfl
      · by_cases h0 : compE (sp c) (s.take (arN sig c)) = 0
        · rw [ofS_yes hu hc h0] at h
          cases h
          show _ = (growStep sig (growR sig u) c).length
          unfold growStep
          rw [if_neg hc, List.length_append, List.length_cons, List.length_drop, List.length_take, ih]
          simp only [List.length_cons, List.length_nil]
          omega
        · rw [ofS_no hu hc h0] at h; cases h

/-- Two rows of terms, one behind the other. -/
theorem ofS_app {sig : List Sy} (ha : ArOk sig) {sp vp : Int → List Mn} {v : List Int} {sv : List (List Mn)} (hv : ofS sig sp vp v = some sv) : ∀ (u p : List Int), firstT sig 1 0 (p ++ u) = (((p ++ u).length : Int), 0) →
    ofS sig sp vp (u ++ v) = (ofS sig sp vp u).map (· ++ sv)
  | [], p, _ => by simpa [ofS] using hv
  | c :: u, p, h => by
    have ih := ofS_app ha hv u (p ++ [c]) (by simpa using h)
    cases hu : ofS sig sp vp u with
    | none =>
      rw [hu] at ih
      rw [ofS_none hu, List.cons_append, ofS_none ih]
      rfl
    | some s =>
      rw [hu] at ih
      have ih2 : ofS sig sp vp (u ++ v) = some (s ++ sv) := ih
      by_cases hc : c < 0
      · rw [List.cons_append, ofS_var ih2 hc, ofS_var hu hc]
        rfl
      · obtain ⟨_, h2⟩ := grow_code ha p c u 1 0 (by omega) (by rw [h]; simp) hc
        rw [← ofS_len hu] at h2
        have e1 : (s ++ sv).take (arN sig c) = s.take (arN sig c) := by rw [List.take_append_of_le_length h2]
        have e2 : (s ++ sv).drop (arN sig c) = s.drop (arN sig c) ++ sv := by rw [List.drop_append_of_le_length h2]
        by_cases h0 : compE (sp c) (s.take (arN sig c)) = 0
        · rw [List.cons_append, ofS_yes ih2 hc (by rw [e1]; exact h0), ofS_yes hu hc h0, e1, e2]
          rfl
        · rw [List.cons_append, ofS_no ih2 hc (by rw [e1]; exact h0), ofS_no hu hc h0]
          rfl

/-- A right row is one term: one polynomial or none. -/
theorem ofS_one {sig : List Sy} (ha : ArOk sig) {sp vp : Int → List Mn} {t : List Int} (h : rowE sig t = 0) : ofS sig sp vp t = none ∨ ∃ p, ofS sig sp vp t = some [p] := by
  cases ht : ofS sig sp vp t with
  | none => exact .inl rfl
  | some st =>
    obtain ⟨T, hT, _⟩ := grow_one ha h
    have hl := ofS_len ht
    rw [hT] at hl
    match st, hl with
    | [p], _ => exact .inr ⟨p, rfl⟩

/-- Terms one behind the other. -/
theorem ofS_flat {sig : List Sy} (ha : ArOk sig) {sp vp : Int → List Mn} : ∀ {us : List (List Int)} {ps : List (List Mn)}, (∀ u ∈ us, rowE sig u = 0) → us.length = ps.length → (∀ (i : Nat) u p, us[i]? = some u → ps[i]? = some p → ofS sig sp vp u = some [p]) → ofS sig sp vp us.flatten = some ps
  | [], [], _, _, _ => rfl
  | [], _ :: _, _, h, _ => by simp at h
  | _ :: _, [], _, h, _ => by simp at h
  | u :: us, p :: ps, hu, hl, h => by
    have ih := ofS_flat ha (us := us) (ps := ps) (fun x hx => hu x (List.mem_cons_of_mem _ hx)) (by simpa using hl) (fun i x y hx hy => h (i + 1) x y (by simpa using hx) (by simpa using hy))
    rw [List.flatten_cons, ofS_app ha ih u [] (row_first.1 (hu u (by simp))), h 0 u p rfl rfl]
    rfl

theorem ofS_flat_none {sig : List Sy} (ha : ArOk sig) {sp vp : Int → List Mn} : ∀ {us : List (List Int)}, (∀ u ∈ us, rowE sig u = 0) → (∃ u ∈ us, ofS sig sp vp u = none) → ofS sig sp vp us.flatten = none
  | [], _, h => by obtain ⟨u, hu, _⟩ := h; cases hu
  | u :: us, hu, h => by
    rw [List.flatten_cons]
    cases hr : ofS sig sp vp us.flatten with
    | none => exact ofS_noneL hr u
    | some s =>
      rw [ofS_app ha hr u [] (row_first.1 (hu u (by simp)))]
      obtain ⟨x, hx, hn⟩ := h
      rcases List.mem_cons.1 hx with rfl | hx
      · rw [hn]; rfl
      · rw [ofS_flat_none ha (fun x hx => hu x (List.mem_cons_of_mem _ hx)) ⟨x, hx, hn⟩] at hr
        cases hr

/-- Compose, monomial by monomial: in bounds or too big. -/
theorem compGo_two {args : List (List Mn)} (ha : ∀ f ∈ args, Ch f) : ∀ {p : List Mn} {L : LkY} {F : List Nat → Nat}, Pol p → StY L F → OkF F → KeysLe L →
    ((compGo args L p).2 = 0 ∧ ∃ G, StY (compGo args L p).1 G ∧ OkF G ∧ KeysLe (compGo args L p).1) ∨ (compGo args L p).2 = 2
  | [], L, F, _, hs, ho, hk => by
    unfold compGo
    exact .inl ⟨rfl, F, hs, ho, hk⟩
  | m :: p, L, F, hp, hs, ho, hk => by
    have hpt : Pol p := hp.tail
    have hmb := hp.mon m (by simp)
    have hmg := hp.good (m := m) (by simp)
    have hxs : ∀ x ∈ m.2, 0 ≤ x ∧ x ≤ 64 := hmg.2.2.2
    unfold compGo
    cases hn : noughtB m.2 args
    · have ev : worthV prodL prodE m.2 args [(m.1, [])] = worthGo prodL prodE m.2 args [(m.1, [])] := by unfold worthV; rw [hn]; rfl
      rw [ev]
      obtain ⟨e1, e2, e3⟩ := fac_worth ha hxs hn (ch_const hmb (hp.lim m (by simp))) (by simp)
      rw [← e1]
      by_cases h0 : (facR m.2 args [(m.1, [])]).2 = 0
      · obtain ⟨x1, x2⟩ := e2 h0
        rw [if_pos h0, ← x1]
        obtain ⟨X, hX⟩ : ∃ X, X = (facR m.2 args [(m.1, [])]).1 := ⟨_, rfl⟩
        rw [← hX] at x2 ⊢
        have hk2 := keysLe_puts x2.1.dom hk
        rcases puts_spec (fun m hm => x2.1.good hm) x2.1.dom hs ho with ⟨b1, b2, b3⟩ | ⟨b1, b2⟩
        · rw [if_pos b1]
          exact compGo_two ha hpt b3 b2 hk2
        · rw [if_neg (by rw [b1]; decide)]
          exact .inr b1
      · rw [if_neg h0]
        rcases e3 with h | h
        · exact absurd h h0
        · exact .inr h
    · have ev : worthV prodL prodE m.2 args [(m.1, [])] = ([], 0) := by unfold worthV; rw [hn]; rfl
      rw [ev]
      have ep : puts L [] = (L, 0) := rfl
      simp only [ep, if_true]
      exact compGo_two ha hpt hs ho hk

theorem comp_two {p : List Mn} {args : List (List Mn)} (hp : Ch p) (ha : ∀ f ∈ args, Ch f) (hv : varsN p ≤ args.length) : (compE p args = 0 ∧ Ch (compL p args)) ∨ compE p args = 2 := by
  have h1 : compE p args = (compGo args [] p).2 := by
    unfold compE
    rw [if_pos (checkAll1_iff.2 hp.2), if_pos (checkAll_zero fun x hx => (ha x hx).2), if_pos hv]
  rcases compGo_two ha hp.1 StY.nil okF_zero keysLe_nil with ⟨h2, G, g1, g2, g3⟩ | h2
  · have h0 := h1.trans h2
    have hr := g1.row g2 fun q hq => (g3 q hq).1
    refine .inl ⟨h0, ?_⟩
    unfold compL
    rw [if_pos h0]
    exact ⟨hr.1, hr.2.1⟩
  · exact .inr (h1.trans h2)

/-- What Check tells of interpretations: each symbol's is one, a polynomial of so many variables. -/
theorem inGo_all {sig : List Sy} : ∀ {l : List Ip} {f : Nat → Bool}, inGo sig f l = 0 → (l.map (·.1)).Nodup ∧ (∀ x ∈ l, f x.1.toNat = false) ∧ ∀ i, i < sig.length → f i = true ∨ (i : Int) ∈ l.map (·.1)
  | [], f, h => by
    rw [inGo] at h
    refine ⟨List.nodup_nil, fun x hx => (by cases hx), fun i hi => .inl ?_⟩
    cases hf : f i with
    | true => rfl
    | false => rw [lackB_yes hi hf] at h; cases h
  | (c, p) :: r, f, h => by
    have hok := inGo_ok h
    rw [inGo] at h
    split at h
    · cases h
    · rename_i h1
      split at h
      · cases h
      · split at h
        · cases h
        · obtain ⟨a1, a2, a3⟩ := inGo_all h
          have hc := (hok (c, p) (by simp)).1
          simp only at hc
          have hnot : ∀ x ∈ r, ¬ x.1 = c := fun x hx e => by
            have := a2 x hx
            unfold gvn at this
            rw [e] at this
            simp at this
          refine ⟨?_, ?_, fun i hi => ?_⟩
          · rw [List.map_cons, List.nodup_cons]
            refine ⟨fun hm => ?_, a1⟩
            obtain ⟨x, hx, e⟩ := List.mem_map.1 hm
            exact hnot x hx e
          · intro x hx
            rcases List.mem_cons.1 hx with rfl | hx
            · cases hf : f c.toNat with
              | true => exact absurd (Or.inr (Or.inr hf)) h1
              | false => rfl
            · have := a2 x hx
              unfold gvn at this
              split at this
              · cases this
              · exact this
          · rcases a3 i hi with h3 | h3
            · unfold gvn at h3
              split at h3
              · rename_i e
                refine .inr ?_
                rw [e, List.map_cons, Int.toNat_of_nonneg hc]
                simp
              · exact .inl h3
            · exact .inr (List.mem_cons_of_mem _ h3)

theorem spol_mem : ∀ {l : List Ip} {c : Int}, c ∈ l.map (·.1) → (c, spol l c) ∈ l
  | [], c, h => by cases h
  | x :: r, c, h => by
    rw [spol]
    by_cases e : x.1 = c
    · rw [if_pos e, ← e]
      simp
    · rw [if_neg e]
      rcases List.mem_cons.1 h with h | h
      · exact absurd h.symm e
      · exact List.mem_cons_of_mem _ (spol_mem h)

theorem spol_of : ∀ {l : List Ip} {c : Int} {p : List Mn}, (l.map (·.1)).Nodup → (c, p) ∈ l → spol l c = p
  | [], c, p, _, h => by cases h
  | x :: r, c, p, hn, h => by
    rw [List.map_cons, List.nodup_cons] at hn
    rw [spol]
    rcases List.mem_cons.1 h with h | h
    · rw [← h, if_pos rfl]
    · rw [if_neg (fun e => hn.1 (by rw [e]; exact List.mem_map.2 ⟨_, h, rfl⟩))]
      exact spol_of hn.2 h

theorem spol_rev {l : List Ip} (hn : (l.map (·.1)).Nodup) (c : Int) : spol l.reverse c = spol l c := by
  by_cases h : c ∈ l.map (·.1)
  · have h1 := spol_mem h
    have h2 : (l.reverse.map (·.1)).Nodup := by
      rw [List.map_reverse]
      exact (List.reverse_perm (l.map (·.1))).symm.nodup hn
    exact spol_of h2 (List.mem_reverse.2 h1)
  · have hno : ∀ m : List Ip, (∀ x ∈ m, ¬ x.1 = c) → spol m c = [] := by
      intro m
      induction m with
      | nil => intro _; rfl
      | cons x r ih =>
        intro hx
        rw [spol, if_neg (hx x (by simp))]
        exact ih fun y hy => hx y (List.mem_cons_of_mem _ hy)
    rw [hno l fun x hx e => h (List.mem_map.2 ⟨x, hx, e⟩), hno l.reverse fun x hx e => h (List.mem_map.2 ⟨x, List.mem_reverse.1 hx, e⟩)]

end Go.Proofs.YtdjmjhlbjcgoiaaGreatDoor

/- When two rules number their variables alike, plainly. -/
namespace Go.Proofs.YtdjmjhlbjcgoiaaGreatDoor
open Go.RowKit Go.Maps

theorem metA_app : ∀ (a b m : List Int), metA m (a ++ b) = metA (metA m a) b
  | [], b, m => rfl
  | c :: a, b, m => by
    by_cases h : 0 ≤ c ∨ c ∈ m
    · have e1 : metA m (c :: a) = metA m a := by conv => lhs; unfold metA; rw [if_pos h]
      have e2 : metA m (c :: (a ++ b)) = metA m (a ++ b) := by conv => lhs; unfold metA; rw [if_pos h]
      rw [List.cons_append, e1, e2, metA_app a b m]
    · have e1 : metA m (c :: a) = metA (m ++ [c]) a := by conv => lhs; unfold metA; rw [if_neg h]
      have e2 : metA m (c :: (a ++ b)) = metA (m ++ [c]) (a ++ b) := by conv => lhs; unfold metA; rw [if_neg h]
      rw [List.cons_append, e1, e2, metA_app a b (m ++ [c])]

theorem metA_neg : ∀ (a m : List Int), (∀ c ∈ m, c < 0) → ∀ c ∈ metA m a, c < 0
  | [], m, h, c, hc => h c hc
  | d :: a, m, h, c, hc => by
    unfold metA at hc
    split at hc
    · exact metA_neg a m h c hc
    · rename_i hn
      refine metA_neg a (m ++ [d]) (fun e he => ?_) c hc
      rcases List.mem_append.1 he with he | he
      · exact h e he
      · simp at he
        subst he
        omega

theorem metA_mem : ∀ (a m : List Int) (c : Int), c ∈ metA m a ↔ c ∈ m ∨ (c ∈ a ∧ c < 0)
  | [], m, c => by simp [metA]
  | d :: a, m, c => by
    unfold metA
    split
    · rename_i hd
      rw [metA_mem a m c]
      constructor
      · rintro (h | ⟨h, h0⟩)
        · exact .inl h
        · exact .inr ⟨by simp [h], h0⟩
      · rintro (h | ⟨h, h0⟩)
        · exact .inl h
        · rcases List.mem_cons.1 h with rfl | h
          · rcases hd with hd | hd
            · omega
            · exact .inl hd
          · exact .inr ⟨h, h0⟩
    · rename_i hd
      rw [metA_mem a (m ++ [d]) c]
      constructor
      · rintro (h | ⟨h, h0⟩)
        · rcases List.mem_append.1 h with h | h
          · exact .inl h
          · simp at h
            subst h
            exact .inr ⟨by simp, by omega⟩
        · exact .inr ⟨by simp [h], h0⟩
      · rintro (h | ⟨h, h0⟩)
        · exact .inl (by simp [h])
        · rcases List.mem_cons.1 h with rfl | h
          · exact .inl (by simp)
          · exact .inr ⟨h, h0⟩

theorem met_once : ∀ (t m : List Int), m.Nodup → (metA m t).Nodup
  | [], m, h => h
  | c :: t, m, h => by
    unfold metA
    split
    · exact met_once t m h
    · rename_i hn
      refine met_once t (m ++ [c]) ?_
      rw [List.nodup_append]
      refine ⟨h, by simp, ?_⟩
      intro a ha b hb e
      simp at hb
      subst hb
      subst e
      exact hn (.inr ha)

theorem idx_of {V : List Int} (h : V.Nodup) {k : Nat} {v : Int} (hk : V[k]? = some v) : V.idxOf v = k := by
  obtain ⟨h1, rfl⟩ := List.getElem?_eq_some_iff.1 hk
  exact h.idxOf_getElem k h1

theorem idx_get {V : List Int} {v : Int} (h : v ∈ V) : V[V.idxOf v]? = some v := by
  rw [List.getElem?_eq_getElem (List.idxOf_lt_length_of_mem h), List.getElem_idxOf]

end Go.Proofs.YtdjmjhlbjcgoiaaGreatDoor

/- The polynomial of a term, plainly: what is handed to Compose is right; what Of and Falls answer. -/
namespace Go.Proofs.YtdjmjhlbjcgoiaaGreatDoor

theorem arI_arN {sig : List Sy} (ha : ArOk sig) (c : Int) : arI sig c = (arN sig c : Int) := by
  unfold arI arN
  cases h : sig[c.toNat]? with
  | none => rfl
  | some s =>
    have := ha s (List.mem_of_getElem? h)
    simp only
    omega

/-- Each symbol's polynomial, where Check tells nothing. -/
theorem in_spol {sig : List Sy} {l : List Ip} (h : inE sig l = 0) (hL : ∀ x ∈ l, ∀ m ∈ x.2, Lim m.1) {c : Int} (h0 : 0 ≤ c) (h1 : c.toNat < sig.length) : (c, spol l c) ∈ l ∧ Ch (spol l c) ∧ varsN (spol l c) ≤ arN sig c := by
  obtain ⟨hs, hx⟩ := inE_ok h
  have ha := sigE_ok hs
  have hg : inGo sig (fun _ => false) l = 0 := by
    unfold inE at h
    rw [if_pos hs] at h
    exact h
  obtain ⟨_, _, h3⟩ := inGo_all hg
  have hm : c ∈ l.map (·.1) := by
    rcases h3 c.toNat h1 with h | h
    · cases h
    · rw [Int.toNat_of_nonneg h0] at h
      exact h
  have hmem := spol_mem hm
  obtain ⟨_, _, n20, n2⟩ := hx _ hmem
  simp only at n20 n2
  have hz : checkE (spol l c) (arI sig c) = 0 := by
    rcases checkE_three (spol l c) (arI sig c) (arI_ok ha c) with h | h | h
    · exact h
    · exact absurd h n2
    · exact absurd h n20
  have hbig := check_vars (b := 9223372036854775807) (arI_ok ha c) (by omega) hz
  refine ⟨hmem, ⟨Pol.of (hL _ hmem) (by omega) hbig, hbig⟩, ?_⟩
  rw [arI_arN ha] at hz
  exact (check_len hbig).1 hz

theorem in_nodup {sig : List Sy} {l : List Ip} (h : inE sig l = 0) : (l.map (·.1)).Nodup := by
  obtain ⟨hs, _⟩ := inE_ok h
  unfold inE at h
  rw [if_pos hs] at h
  exact (inGo_all h).1

theorem vpol_mon (k : Nat) : monB ([1], List.replicate k (0 : Int) ++ [1]) = true := by
  unfold monB
  have h1 : (List.replicate k (0 : Int) ++ [1]).all (fun n => decide (0 ≤ n)) = true := by
    rw [List.all_eq_true]
    intro x hx
    rcases List.mem_append.1 hx with h | h
    · rw [List.eq_of_mem_replicate h]; rfl
    · rw [List.mem_singleton.1 h]; rfl
  have h2 : (List.replicate k (0 : Int) ++ [1])[(List.replicate k (0 : Int) ++ [1]).length - 1]? = some 1 := by
    rw [List.length_append, List.length_replicate]
    simp
  rw [h1]
  simp only [h2]
  have h3 : rightB [1] = true := by decide
  rw [h3]
  simp

theorem vpol_check {k n : Nat} (hk : k < n) : checkE (vpol k) (n : Int) = if k < 512 then 0 else 2 := by
  have hp : polyB (vpol k) (n : Int) = true := by
    rw [polyB_iff]
    intro j hj
    have : j = 0 := by simpa [vpol] using hj
    subst this
    unfold okAt
    simp only [vpol, List.getElem?_cons_zero, vpol_mon, Bool.true_and, beq_self_eq_true, Bool.true_or, Bool.and_true, decide_eq_true_eq, List.length_append, List.length_replicate, List.length_cons, List.length_nil]
    omega
  unfold checkE
  rw [if_neg (by omega), if_neg (by rw [hp]; decide)]
  by_cases h : k < 512
  · have hb : boundsB (vpol k) = true := by
      unfold boundsB smallB vpol
      simp only [List.length_cons, List.length_nil, List.all_cons, List.all_nil, Bool.and_true, List.length_append, List.length_replicate, Bool.and_eq_true, decide_eq_true_eq, List.all_eq_true]
      refine ⟨by omega, by omega, fun x hx => ?_⟩
      rcases List.mem_append.1 hx with h | h
      · rw [List.eq_of_mem_replicate h]; omega
      · rw [List.mem_singleton.1 h]; omega
    rw [if_neg (by rw [hb]; decide), if_pos h]
  · have hb : boundsB (vpol k) = false := by
      unfold boundsB smallB vpol
      simp only [List.length_cons, List.length_nil, List.all_cons, List.all_nil, Bool.and_true, List.length_append, List.length_replicate]
      rw [decide_eq_false (p := k + (0 + 1) ≤ 512) (by omega)]
      simp
    rw [if_pos hb, if_neg h]

theorem vpol_ch {k : Nat} (hk : k < 512) : Ch (vpol k) := by
  have h := vpol_check (n := 512) hk
  rw [if_pos hk] at h
  have hb := check_vars (b := 9223372036854775807) (by omega) (by omega) h
  refine ⟨Pol.of (fun m hm => ?_) (by omega) hb, hb⟩
  have : m = ([1], List.replicate k 0 ++ [1]) := by simpa [vpol] using hm
  subst this
  intro x hx
  have : x = 1 := by simpa using hx
  omega

/-- What stands on the stack is right; and a code that is too big is told as such. -/
theorem ofS_ch {sig : List Sy} (ha : ArOk sig) {sp vp : Int → List Mn} (hsp : ∀ c : Int, 0 ≤ c → c.toNat < sig.length → Ch (sp c) ∧ varsN (sp c) ≤ arN sig c) : ∀ (u p : List Int), firstT sig 1 0 (p ++ u) = (((p ++ u).length : Int), 0) → (∀ c ∈ u, c < 0 → Ch (vp c)) →
    ∀ st, ofS sig sp vp u = some st → ∀ q ∈ st, Ch q
  | [], p, _, _, st, h => by
    cases h
    exact fun q hq => by cases hq
  | c :: u, p, hf, hv, st, h => by
    have ih := ofS_ch ha hsp u (p ++ [c]) (by simpa using hf) (fun d hd => hv d (List.mem_cons_of_mem _ hd))
    cases hu : ofS sig sp vp u with
    | none => rw [ofS_none hu] at h; cases h
    | some s =>
      have is := ih s hu
      by_cases hc : c < 0
      · rw [ofS_var hu hc] at h
        cases h
        intro q hq
        rcases List.mem_cons.1 hq with rfl | hq
        · exact hv c (by simp) hc
        · exact is q hq
      · obtain ⟨k1, k2⟩ := grow_code ha p c u 1 0 (by omega) (by rw [hf]; simp) hc
        rw [← ofS_len hu] at k2
        obtain ⟨c1, c2⟩ := hsp c (by omega) k1
        by_cases h0 : compE (sp c) (s.take (arN sig c)) = 0
        · rw [ofS_yes hu hc h0] at h
          cases h
          intro q hq
          rcases List.mem_cons.1 hq with rfl | hq
          · rcases comp_two c1 (fun f hf => is f (List.mem_of_mem_take hf)) (by rw [List.length_take, Nat.min_eq_left k2]; exact c2) with h | h
            · exact h.2
            · rw [h] at h0; cases h0
          · exact is q (List.mem_of_mem_drop hq)
        · rw [ofS_no hu hc h0] at h; cases h

theorem ofS_big {sig : List Sy} (ha : ArOk sig) {sp vp : Int → List Mn} (hsp : ∀ c : Int, 0 ≤ c → c.toNat < sig.length → Ch (sp c) ∧ varsN (sp c) ≤ arN sig c) {c : Int} {u p : List Int} (hf : firstT sig 1 0 (p ++ c :: u) = (((p ++ c :: u).length : Int), 0)) (hv : ∀ c ∈ u, c < 0 → Ch (vp c))
    {st : List (List Mn)} (hu : ofS sig sp vp u = some st) (hc : ¬ c < 0) : c.toNat < sig.length ∧ arN sig c ≤ st.length ∧ (compE (sp c) (st.take (arN sig c)) = 0 ∨ compE (sp c) (st.take (arN sig c)) = 2) := by
  obtain ⟨k1, k2⟩ := grow_code ha p c u 1 0 (by omega) (by rw [hf]; simp) hc
  rw [← ofS_len hu] at k2
  obtain ⟨c1, c2⟩ := hsp c (by omega) k1
  have is := ofS_ch ha hsp u (p ++ [c]) (by simpa using hf) hv st hu
  refine ⟨k1, k2, ?_⟩
  rcases comp_two c1 (fun f hf => is f (List.mem_of_mem_take hf)) (by rw [List.length_take, Nat.min_eq_left k2]; exact c2) with h | h
  · exact .inl h.1
  · exact .inr h

/-- A variable's polynomial by its place in a row of numbers. -/
def vAt (vs : List Int) (c : Int) : List Mn := vpol (vs.idxOf (-1 - c))

/-- The polynomial of a term, with the variables numbered by a row; nothing: one is too big. -/
def ofV (sig : List Sy) (l : List Ip) (vs t : List Int) : Option (List Mn) :=
  if 512 < vs.length then none else match ofS sig (spol l) (vAt vs) t with | some [p] => some p | _ => none

/-- The error and the row that are told. -/
def ovE (o : Option (List Mn)) : Int := match o with | some _ => 0 | none => 2

def ovL (o : Option (List Mn)) : List Mn := o.getD []

theorem ofV_some {sig : List Sy} {l : List Ip} {vs t : List Int} {p : List Mn} (h : vs.length ≤ 512) (ht : ofS sig (spol l) (vAt vs) t = some [p]) : ofV sig l vs t = some p := by
  unfold ofV
  rw [if_neg (by omega), ht]

theorem ofV_none {sig : List Sy} {l : List Ip} {vs t : List Int} (ht : ofS sig (spol l) (vAt vs) t = none) : ofV sig l vs t = none := by
  unfold ofV
  rw [ht]
  split <;> rfl

def ofPE (sig : List Sy) (l : List Ip) (t : List Int) : Int := if inE sig l = 0 then if termE sig t = 0 then ovE (ofV sig l (varsL t) t) else termE sig t else inE sig l

def ofPL (sig : List Sy) (l : List Ip) (t : List Int) : List Mn := if inE sig l = 0 ∧ termE sig t = 0 then ovL (ofV sig l (varsL t) t) else []

/-- Of two answers the first error. -/
def ovE2 (a b : Option (List Mn)) : Int := if ovE a = 0 then ovE b else ovE a

def fallE (sig : List Sy) (l : List Ip) (a b : List Int) : Int := if inE sig l = 0 then if termE sig a = 0 then if termE sig b = 0 then ovE2 (ofV sig l (varsL (a ++ b)) a) (ofV sig l (varsL (a ++ b)) b) else termE sig b else termE sig a else inE sig l

/-- How much greater one is. -/
def fallP (p q : List Mn) : Int := if greaterB p q = true then 2 else if atLeastB p q = true then 1 else 0

def fallN (sig : List Sy) (l : List Ip) (a b : List Int) : Int := if fallE sig l a b = 0 then fallP (ovL (ofV sig l (varsL (a ++ b)) a)) (ovL (ofV sig l (varsL (a ++ b)) b)) else 0

end Go.Proofs.YtdjmjhlbjcgoiaaGreatDoor

/- Binds whose rows are the call's own; a look into a map of rows. -/
namespace Go.Proofs.YtdjmjhlbjcgoiaaGreatDoor
open Go.RowKit Go.Maps

theorem MapV.lookOne {w : World} {b : Nat} {L : List (Int × Value)} (h : MapV w b L) {t e : TypeId} {z : Value} (ht : Tryz.prog.underlying t = some (.map 3 e)) (hz : (zeroValue e).run Tryz.prog w = .ok z w) {k : Int} (h1 : -9223372036854775808 ≤ k) (h2 : k ≤ 9223372036854775807) {u : Value} (hl : L.lookup k = some u) :
    (Instr.lookup t (.map (some b)) (.int .i64 k) false).run Tryz.prog w = .ok u w := by
  obtain ⟨D, hD, _, ha, hh⟩ := h
  obtain ⟨v, ps, hrun, hv⟩ := hD.lookup set_keyed ht hz (zd := .held z) (zp := []) rfl (key_int h1 h2)
  rw [hrun]
  have hv2 : D.atKey (.int .i64 k) (.held z) = .held v := by
    simp only [RV, Option.some.injEq, Prod.mk.injEq] at hv
    exact hv.1.symm
  rw [ha k u hl] at hv2
  rw [DataW.held.inj hv2]

end Go.Proofs.YtdjmjhlbjcgoiaaGreatDoor

/- Blocks of rows of monomials; rows of one's own beside them. -/
namespace Go.Proofs.YtdjmjhlbjcgoiaaGreatDoor
open Go.RowKit Go.Maps Go.BigFrame

/-- A block that holds the headers of rows of monomials. -/
def VB (w : World) (g : Nat) (vals : List Value) : Prop := w.heap[g]? = some (.cells vals.toArray 31 (0, 0))

theorem VB.lt {w : World} {g : Nat} {vals : List Value} (h : VB w g vals) : g < w.heap.size := (Array.getElem?_eq_some_iff.1 h).1

theorem VB.cell {w : World} {g : Nat} {vals : List Value} (h : VB w g vals) {k : Nat} {v : Value} (hk : vals[k]? = some v) : w.cell? ⟨g, k, none⟩ = some v := by
  rw [cell_of_row _ _ _ _ _ _ h]
  simpa using hk

theorem VB.frozen {w : World} {g : Nat} {vals : List Value} (h : VB w g vals) (k : Nat) : w.frozen? ⟨g, k, none⟩ = false := frozen_of_row w _ _ _ _ h

theorem VB.set {w : World} {g : Nat} {vals : List Value} (h : VB w g vals) (k : Nat) (v : Value) : VB (w.setCell ⟨g, k, none⟩ v) g (vals.set k v) := by
  unfold VB
  rw [heap_setCell_same _ _ _ _ _ _ h]
  simp

theorem VB.later {w w' : World} {g : Nat} {vals : List Value} (h : VB w g vals) (hb : Below w.heap.size w w') : VB w' g vals := (hb.block g h.lt).trans h

theorem VB.held {w w' : World} {g : Nat} {vals : List Value} {row : Option Nat} (h : VB w g vals) (hg : w.grownBy w' row) (hr : some g ≠ row) : VB w' g vals := (hg.block g h.lt hr).trans h

theorem grown_setCell (w : World) (g k : Nat) (v : Value) : w.grownBy (w.setCell ⟨g, k, none⟩ v) (some g) :=
  ⟨rfl, rfl, rfl, by simp, fun j _ hj => Below.heap_setCell w ⟨g, k, none⟩ v j (fun e => hj (by rw [e]))⟩

theorem own_notVB {w : World} {base n g : Nat} {e : TypeId} {s : Nat} {v : Value} {xs vals : List Value} (h : w.ownsRow base e s v n xs) (hg : VB w g vals) (hne : e ≠ 31) : v.ownBlock = none ∨ v.ownBlock ≠ some g := by
  rcases h.2 with ⟨rfl, _⟩ | ⟨g', cap, cur, rfl, _, hg', _⟩
  · exact .inl rfl
  · refine .inr ?_
    simp only [Value.ownBlock]
    intro e
    cases e
    unfold VB at hg
    rw [hg] at hg'
    simp only [Option.some.injEq, Obj.cells.injEq] at hg'
    exact hne hg'.2.1.symm

theorem OM.held {w w' : World} {base : Nat} {v : Value} {p : List Mn} {row : Option Nat} (h : OM w base v p) (hg : w.grownBy w' row) (hn : ∀ (e : TypeId) (s n : Nat) (u : Value) (xs : List Value), w.ownsRow base e s u n xs → e ≠ 31 → u.ownBlock = none ∨ u.ownBlock ≠ row) : OM w' base v p := by
  obtain ⟨cs, hl, hc, ho⟩ := h
  refine ⟨cs, hl, fun i c m h1 h2 => ?_, World.ownsRow.kept ho hg (hn _ _ _ _ _ ho (by decide))⟩
  obtain ⟨o1, o2⟩ := hc i c m h1 h2
  exact ⟨o1.held hg (hn _ _ _ _ _ o1.2 (by decide)), o2.kept hg (hn _ _ _ _ _ o2.2 (by decide))⟩

theorem OM.setVB {w : World} {base g k : Nat} {v u : Value} {p : List Mn} {vals : List Value} (h : OM w base v p) (hg : VB w g vals) : OM (w.setCell ⟨g, k, none⟩ u) base v p :=
  h.held (grown_setCell w g k u) fun _ _ _ _ _ ho hne => own_notVB ho hg hne

theorem OM.mapped {w w' : World} {base b : Nat} {v : Value} {p : List Mn} {es : Array MapEntry} {clock : Nat} (h : OM w base v p) (hb : w.heap[b]? = some (.map es clock)) (hg : w.grownBy w' (some b)) : OM w' base v p :=
  h.held hg fun _ _ _ _ _ ho _ => own_notMap ho hb

theorem info_monos : (Tryz.prog.info? 31).map (fun i => (i.zero, i.size, i.bytes)) = some (some (.slice none 0 0), 1, 24) := by kernel_rfl

theorem under_polys : Tryz.prog.underlying 49 = some (.slice 31) := by kernel_rfl

theorem run_make_polys (w : World) (n : Nat) (hn : n * 24 ≤ 140737488355328) : (Instr.makeSlice 49 (.int .i64 (n : Int)) (.int .i64 (n : Int))).run Tryz.prog w = .ok (.slice (some ⟨w.heap.size, 0, none⟩) n n) (w.alloc (.cells (List.replicate n (Value.slice none 0 0)).toArray 31)) := by
  obtain ⟨i0, hi, hz0, hz1, hz2⟩ := info_parts3 info_monos
  have h := run_make (P := Tryz.prog) w 49 31 i0 (.slice none 0 0) under_polys hi hz0 .i64 .i64 (n : Int) (n : Int) (by omega) (Int.le_refl _) (by rw [hz2]; omega) (by omega)
  rw [hz1, Int.toNat_natCast] at h
  have e : madeCells (Value.slice none 0 0).cells (n * 1) = (List.replicate n (Value.slice none 0 0)).toArray := by
    apply Array.ext'
    have : (Value.slice none 0 0).cells = #[Value.slice none 0 0] := rfl
    rw [this, toList_madeCells_one]
    simp
  rw [e] at h
  exact h

/-- Some rows of a block, one behind the other, as a list of polynomials. -/
theorem VB.ps {w : World} {g top n cap : Nat} {vals : List Value} {ps : List (List Mn)} (h : VB w g vals) (hn : n = ps.length) (hc : n ≤ cap) (hm : cap ≤ maxLen) (hx : ∀ (i : Nat) p, ps[i]? = some p → ∃ u, vals[top + i]? = some u ∧ Ms w u p) : Ps w (.slice (some ⟨g, top, none⟩) n cap) ps := by
  subst hn
  refine ⟨_, cap, rfl, hc, hm, fun _ => ⟨g, top, rfl, h.lt, fun k p hk => ?_⟩⟩
  obtain ⟨u, hu, hms⟩ := hx k p hk
  exact ⟨u, by rw [Nat.mul_one]; exact h.cell hu, hms⟩

end Go.Proofs.YtdjmjhlbjcgoiaaGreatDoor
