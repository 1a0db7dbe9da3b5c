/- What the document's Compose answers. -/
import Derived.Test.YtfifgmcjilkigaaPRefM
import Derived.Test.YtfifgmcjilkigaaPPowR
import Derived.Test.YtfifgmcjilkigaaPLawS
namespace Go.Proofs.Ytfifgmcjilkigaa
open Go.RowKit Go.Maps

theorem nought_takeM {es : List Int} : ∀ {fs : List (List Mn)} {l : Nat} {e : Int} {f : List Mn}, es[l]? = some e → fs[l]? = some f → noughtB (es.take (l + 1)) fs = (noughtB (es.take l) fs || (decide (0 < e) && f.length == 0)) := by
  induction es with
  | nil => intro fs l e f h; simp at h
  | cons a es ih =>
    intro fs l e f h h'
    cases fs with
    | nil => simp at h'
    | cons b fs =>
      have hc : ∀ (n : Int) (es : List Int), noughtB (n :: es) (b :: fs) = (decide (0 < n) && b.length == 0 || noughtB es fs) := fun _ _ => rfl
      cases l with
      | zero =>
        simp at h h'
        subst h; subst h'
        simp [noughtB]
      | succ l =>
        rw [List.take_succ_cons, List.take_succ_cons, hc, hc, ih (by simpa using h) (by simpa using h'), Bool.or_assoc]

theorem checkAll_first : ∀ {args : List (List Mn)} {k : Nat} {f : List Mn}, (∀ (j : Nat) (x : List Mn), j < k → args[j]? = some x → checkE x 9223372036854775807 = 0) → args[k]? = some f → ¬ checkE f 9223372036854775807 = 0 → checkAllE args = checkE f 9223372036854775807
  | [], k, f, _, h, _ => by simp at h
  | a :: args, 0, f, _, h, hn => by
    simp at h
    subst h
    simp only [checkAllE]
    rw [if_neg hn]
  | a :: args, k + 1, f, hz, h, hn => by
    simp only [checkAllE]
    rw [if_pos (hz 0 a (by omega) rfl)]
    exact checkAll_first (k := k) (fun j x hj hx => hz (j + 1) x (by omega) (by simpa using hx)) (by simpa using h) hn

theorem checkAll_zero : ∀ {args : List (List Mn)}, (∀ x ∈ args, checkE x 9223372036854775807 = 0) → checkAllE args = 0
  | [], _ => rfl
  | a :: args, h => by
    simp only [checkAllE]
    rw [if_pos (h a (by simp))]
    exact checkAll_zero fun x hx => h x (List.mem_cons_of_mem _ hx)

/-- What is left of the factors: j times f, and then the others. -/
def contF (f : List Mn) (j : Nat) (es : List Int) (fs : List (List Mn)) (X : List Mn) : List Mn × Int := if (mulN f j X).2 = 0 then facR es fs (mulN f j X).1 else ([], (mulN f j X).2)

theorem contF_zero (f : List Mn) (es : List Int) (fs : List (List Mn)) (X : List Mn) : contF f 0 es fs X = facR es fs X := by
  unfold contF mulN
  rw [if_pos rfl]

theorem contF_succ (f : List Mn) (j : Nat) (es : List Int) (fs : List (List Mn)) (X : List Mn) : contF f (j + 1) es fs X = if mulPE X f = 0 then contF f j es fs (mulPL X f) else ([], mulPE X f) := by
  by_cases h : mulPE X f = 0
  · rw [if_pos h]
    unfold contF
    rw [show mulN f (j + 1) X = mulN f j (mulPL X f) by rw [mulN, if_pos h]]
  · rw [if_neg h]
    unfold contF
    rw [show mulN f (j + 1) X = ([], mulPE X f) by rw [mulN, if_neg h]]
    simp only
    rw [if_neg h]

theorem Ps.limA {w : World} {v : Value} {ps : List (List Mn)} (h : Ps w v ps) : ∀ f ∈ ps, ∀ m ∈ f, Lim m.1 := by
  intro f hf
  obtain ⟨k, hk⟩ := List.mem_iff_getElem?.1 hf
  obtain ⟨ao, cap, rfl, _, _, hx⟩ := Row.flat h
  obtain ⟨g, off, x, _, hk2, u, _, hmo⟩ := hx k (List.getElem?_eq_some_iff.1 hk).1
  rw [hk] at hk2
  cases hk2
  exact hmo.limA

/-- One monomial in a new row. -/
theorem ms_alloc1 {A : Nat → Bool} {w : World} {cv ev : Value} {m : Mn} (h : Mo (only A w) cv ev m) (hA : A w.heap.size = true) (t : TypeId) : Ms (only A (w.alloc (.cells #[cv, ev] t))) (.slice (some ⟨w.heap.size, 0, none⟩) 1 1) [m] := by
  refine ⟨_, 1, rfl, by simp, by unfold maxLen; omega, fun _ => ⟨w.heap.size, 0, rfl, by rw [only_size]; simp, fun k x hk => ?_⟩⟩
  have hk0 : k = 0 := by
    have := (List.getElem?_eq_some_iff.1 hk).1
    simpa using this
  subst hk0
  simp at hk
  subst hk
  refine ⟨cv, ev, ?_, ?_, h.kp (only_below (below_alloc _))⟩
  · rw [only_cell hA, cell_of_row _ _ _ _ _ _ (heap_alloc_new _ _)]; rfl
  · rw [only_cell hA, cell_of_row _ _ _ _ _ _ (heap_alloc_new _ _)]; rfl

set_option maxRecDepth 100000 in
set_option maxHeartbeats 6400000 in
theorem refCompose_any (A : Nat → Bool) (v av : Value) (p : List Mn) (args : List (List Mn)) (w : World) (h : Ms (only A w) v p) (h' : Ps (only A w) av args) (hA : ∀ g, w.heap.size ≤ g → A g = true) (hl : ∀ m ∈ p, m.2.length ≤ 4611686018427387904) (hl' : ∀ f ∈ args, ∀ m ∈ f, m.2.length ≤ 4611686018427387904) :
    Calls Try.prog 24 #[v, av] w fun e w' => ∃ v', e = .returned (.tuple #[v', .int .i64 (compE p args)]) ∧ Ms (only A w') v' (compL p args) ∧ Below w.heap.size w w' := by
  obtain ⟨ao, cap, rfl, hao, hca, q0⟩ := Row.flat h
  obtain ⟨bo, cap', rfl, hbo, hcb, q0'⟩ := Row.flat h'
  unfold maxLen at hca hcb
  have HP : Hid (Ms (only A w) (.slice ao p.length cap) p) := h
  have HQ : Hid (Ps (only A w) (.slice bo args.length cap') args) := h'
  have HA : Hid (∀ g, w.heap.size ≤ g → A g = true) := hA
  have HL : Hid (∀ m ∈ p, Lim m.1) := h.limA
  have HLa : Hid (∀ f ∈ args, ∀ m ∈ f, Lim m.1) := h'.limA
  have HLo : Hid (∀ m ∈ p, m.2.length ≤ 4611686018427387904) := hl
  have HLf : Hid (∀ f ∈ args, ∀ m ∈ f, m.2.length ≤ 4611686018427387904) := hl'
  clear h h' q0 q0' hl hl' hA
  go_enter Try.func24, Try.ntmps24
  go_wp2_with fail
  refine (refCheck_any _ p 4611686018427387904 _ (HP.out.kp (only_kp A w)) (by omega) (by omega)).mono ?_
  rw [checkR_eq, check_long HLo.out]
  rintro e w1 ⟨rfl, hb1⟩
  have HB1 : Hid (Below w.heap.size w w1) := hb1
  obtain ⟨E, hE⟩ : ∃ E, E = checkE p 9223372036854775807 := ⟨_, rfl⟩
  have HE : Hid (E = checkE p 9223372036854775807) := hE
  rw [← hE]
  clear hE hb1
  by_cases hE0 : E = 0
  rotate_left
  · have hb0 : (E != 0) = true := by rw [bne_iff_ne]; exact hE0
    have hc : compE p args = E := by
      unfold compE
      have : ¬ checkAllE [p] = 0 := fun hh => hE0 (by rw [HE.out]; exact checkAll1_iff.1 hh)
      rw [if_neg this]
      simp only [checkAllE]
      rw [← HE.out, if_neg hE0]
    have HC : Hid (compE p args = E ∧ compL p args = []) := ⟨hc, by unfold compL; rw [hc, if_neg hE0]⟩
    clear hc
    go_wp2
    go_ret2
    exact ⟨_, ret2i HC.out.1.symm, by rw [HC.out.2]; exact Row.nil (Nat.zero_le _), HB1.out⟩
  subst hE0
  have HPol : Hid (Pol p) := Pol.of HL.out (by omega) HE.out.symm
  go_wp2
  go_loopw [7] (fun i wr => ∃ k : Nat, k ≤ args.length ∧ i = .int .i64 k ∧ (∀ (j : Nat) (x : List Mn), j < k → args[j]? = some x → checkE x 9223372036854775807 = 0) ∧ Below w.heap.size w wr) (fun i _ => args.length - (intOf i).toNat)
  case atStart => exact ⟨0, by omega, rfl, fun j x hj => absurd hj (by omega), HB1.out⟩
  case round =>
    obtain ⟨k, hk, rfl, hp, hbl⟩ := hrel
    obtain ⟨wa, rfl⟩ : ∃ X, X = wr := ⟨wr, rfl⟩
    have HPk : Hid (∀ (j : Nat) (x : List Mn), j < k → args[j]? = some x → checkE x 9223372036854775807 = 0) := hp
    have HB2 : Hid (Below w.heap.size w wa) := hbl
    have KW : Kp (only A w) wa := (only_kp A w).trans (Kp.of_below hbl)
    clear hp hbl HB1
    by_cases hlt : k < args.length
    · obtain ⟨g, off, f, a1, c1, rfl, hm1, hc0', hmo, hl1, hl2⟩ := HQ.out.at hlt
      have hc0 := KW.cell _ _ hc0'
      have HX : Hid (args[k]? = some f) := hm1
      have HMo : Hid (Ms wa (.slice a1 f.length c1) f) := hmo.kp KW
      have HLk : Hid (∀ m ∈ f, m.2.length ≤ 4611686018427387904) := HLf.out f (List.mem_of_getElem? hm1)
      clear hm1 hc0' hmo KW
      go_wp2_with fail
      refine (refCheck_any _ f 4611686018427387904 _ HMo.out (by omega) (by omega)).mono ?_
      rw [checkR_eq, check_long HLk.out]
      rintro e w9 ⟨rfl, hb9⟩
      have HB9 : Hid (Below w.heap.size w w9) := below_step HB2.out hb9
      clear hb9 hc0
      by_cases hf0 : checkE f 9223372036854775807 = 0
      · have HF0 : Hid (checkE f 9223372036854775807 = 0) := hf0
        rw [hf0]
        clear hf0
        go_wp2
        go_roundw
        case rel =>
          refine ⟨k + 1, by omega, by go_num, fun j x hj hx => ?_, HB9.out⟩
          by_cases hjk : j = k
          · subst hjk; rw [HX.out] at hx; cases hx; exact HF0.out
          · exact HPk.out j x (by omega) hx
        case measure => simp [intOf]; omega
      · obtain ⟨F, hF⟩ : ∃ F, F = checkE f 9223372036854775807 := ⟨_, rfl⟩
        have hc : compE p args = F := by
          unfold compE
          rw [if_pos (checkAll1_iff.2 HE.out.symm), checkAll_first HPk.out HX.out hf0, ← hF]
          rw [← hF] at hf0
          rw [if_neg hf0]
        rw [← hF] at hf0 ⊢
        have HC : Hid (compE p args = F ∧ compL p args = []) := ⟨hc, by unfold compL; rw [hc, if_neg hf0]⟩
        clear hc hF
        go_wp2
        go_ret2
        exact ⟨_, ret2i HC.out.1.symm, by rw [HC.out.2]; exact Row.nil (Nat.zero_le _), HB9.out⟩
    · have HAll : Hid (∀ x ∈ args, checkE x 9223372036854775807 = 0) := fun x hx => by
        obtain ⟨j, hj⟩ := List.mem_iff_getElem?.1 hx
        exact HPk.out j x (by have := (List.getElem?_eq_some_iff.1 hj).1; omega) hj
      have HCh : Hid (∀ f ∈ args, Ch f) := fun f hf => ⟨Pol.of (HLa.out f hf) (by decide) (HAll.out f hf), HAll.out f hf⟩
      clear HPk KW
      go_wp2_with fail
      refine (refCheck_any _ p (args.length : Int) _ (HP.out.kp ((only_kp A w).trans (Kp.of_below HB2.out))) (by omega) (by omega)).mono ?_
      rw [checkR_eq]
      rintro e w2 ⟨rfl, hb2⟩
      have HB3 : Hid (Below w.heap.size w w2) := below_step HB2.out hb2
      obtain ⟨F, hF⟩ : ∃ F, F = checkE p (args.length : Int) := ⟨_, rfl⟩
      have HFe : Hid (F = 0 ↔ varsN p ≤ args.length) := by
        show _ ↔ _
        rw [hF]
        exact check_len HE.out.symm
      rw [← hF]
      clear hF hb2 HB2
      by_cases hF0 : F = 0
      rotate_left
      · have hb0 : (F != 0) = true := by rw [bne_iff_ne]; exact hF0
        have hc : compE p args = 21 := by
          unfold compE
          rw [if_pos (checkAll1_iff.2 HE.out.symm), if_pos (checkAll_zero HAll.out), if_neg (fun hh => hF0 (HFe.out.2 hh))]
        have HC : Hid (compE p args = 21 ∧ compL p args = []) := ⟨hc, by unfold compL; rw [hc]; rfl⟩
        clear hc
        go_wp2
        go_ret2
        exact ⟨_, ret2i HC.out.1.symm, by rw [HC.out.2]; exact Row.nil (Nat.zero_le _), HB3.out⟩
      have HV : Hid (varsN p ≤ args.length) := HFe.out.1 hF0
      subst hF0
      clear HFe
      have hcomp : compE p args = (docGo args [] p).2 ∧ ((docGo args [] p).2 = 0 → compL p args = (docGo args [] p).1) ∧ (¬ (docGo args [] p).2 = 0 → compL p args = []) := by
        have h0 := docGo_eq HCh.out HPol.out St.nil okF_zero keysLe_nil
        have e0 : rowL [] = [] := rfl
        rw [e0] at h0
        have hc : compE p args = (compGo args [] p).2 := by
          unfold compE
          rw [if_pos (checkAll1_iff.2 HE.out.symm), if_pos (checkAll_zero HAll.out), if_pos HV.out]
        refine ⟨hc.trans h0.1.symm, fun hz => ?_, fun hz => ?_⟩
        · unfold compL
          rw [hc, ← h0.1, if_pos hz, h0.2 hz]
        · unfold compL
          rw [hc, ← h0.1, if_neg hz]
      have HComp : Hid (compE p args = (docGo args [] p).2 ∧ ((docGo args [] p).2 = 0 → compL p args = (docGo args [] p).1) ∧ (¬ (docGo args [] p).2 = 0 → compL p args = [])) := hcomp
      clear hcomp
      go_wp2
      go_loopw [8, 9] (fun x i wr => ∃ (k : Nat) (O : List Mn), k ≤ p.length ∧ i = .int .i64 k ∧ docGo args [] p = docGo args O (p.drop k) ∧ (∀ m ∈ O, m.2.length ≤ 512) ∧ Ms (only A wr) x O ∧ Below w.heap.size w wr) (fun _ i _ => p.length - (intOf i).toNat)
      case atStart => exact ⟨0, [], by omega, rfl, rfl, fun m hm => (by cases hm), Row.nil (Nat.zero_le _), below_step HB3.out (below_alloc _)⟩
      case round =>
        obtain ⟨k, O, hk, rfl, hdo, hOl, hms, hbl⟩ := hrel
        obtain ⟨wA, rfl⟩ : ∃ X, X = wr := ⟨wr, rfl⟩
        have HDo : Hid (docGo args [] p = docGo args O (p.drop k)) := hdo
        have HOl : Hid (∀ m ∈ O, m.2.length ≤ 512) := hOl
        have HMs : Hid (Ms (only A wA) u8 O) := hms
        have HBl : Hid (Below w.heap.size w wA) := hbl
        have KW : Kp (only A w) wA := (only_kp A w).trans (Kp.of_below hbl)
        clear hdo hOl hms hbl HB3
        by_cases hlt : k < p.length
        · obtain ⟨g, off, c, es, a1, c1, a2, c2, rfl, hm1, hc0', hc1', hmm, hl1, hl2, hl3, hl4⟩ := HP.out.at hlt
          have hc0 := KW.cell _ _ hc0'
          have hc1 := KW.cell _ _ hc1'
          have HX : Hid (p[k]? = some (c, es)) := hm1
          have HGm : Hid (GoodM (c, es)) := HPol.out.good (List.mem_of_getElem? hm1)
          have hle : es.length ≤ args.length := varsN_iff.1 HV.out _ (List.mem_of_getElem? hm1)
          have HMo : Hid (Mo (only A w) (.slice a1 c.length c1) (.slice a2 es.length c2) (c, es)) := hmm
          have HIs : Hid (Is wA (.slice a2 es.length c2) es) := hmm.2.kp KW
          have HQr : Hid (Ps wA (.slice bo args.length cap') args) := HQ.out.kp KW
          have HDr : Hid (p.drop k = (c, es) :: p.drop (k + 1)) := drop_get hm1
          clear hm1 hmm hc0' hc1' KW
          go_wp2
          go_loopw [10, 11] (fun b i ws => ∃ l : Nat, l ≤ es.length ∧ i = .int .i64 l ∧ b = .bool (noughtB (es.take l) args) ∧ ws = wA) (fun _ i _ => es.length - (intOf i).toNat)
          case atStart => exact ⟨0, by omega, rfl, by simp [noughtB], rfl⟩
          case round =>
            obtain ⟨l, hl, rfl, rfl, hw⟩ := hrel
            have hw8 := hw.symm
            subst hw8
            clear hw
            by_cases hll : l < es.length
            · obtain ⟨g2, o2, x, rfl, hx1, hx2, hx3, hx4⟩ := HIs.out.at hll
              obtain ⟨g3, o3, f, b1, d1, rfl, hy1, hy2, hy3, hy4, hy5⟩ := HQr.out.at (k := l) (by omega)
              have hla : l < args.length := by omega
              have HN : Hid (noughtB (es.take (l + 1)) args = (noughtB (es.take l) args || (decide (0 < x) && f.length == 0))) := nought_takeM hx1 hy1
              clear hx1 hy1 hy3
              cases hB : noughtB (es.take l) args
              · rw [hB] at HN
                clear hB
                by_cases hx : 0 < x
                · by_cases hf0 : f.length = 0
                  · have hfb : ((f.length : Int) == 0) = true := by rw [beq_iff_eq]; omega
                    have HN2 : Hid (noughtB (es.take (l + 1)) args = true) := by show _ = _; rw [HN.out]; simp [hx, hf0]
                    clear hf0
                    go_wp2
                    go_roundw
                    case rel => exact ⟨l + 1, by omega, by go_num, by rw [HN2.out], trivial⟩
                    case measure => simp [intOf]; omega
                  · have hfb : ((f.length : Int) == 0) = false := by rw [beq_eq_false_iff_ne]; omega
                    have HN2 : Hid (noughtB (es.take (l + 1)) args = false) := by show _ = _; rw [HN.out]; simp [hf0]
                    clear hf0
                    go_wp2
                    go_roundw
                    case rel => exact ⟨l + 1, by omega, by go_num, by rw [HN2.out], trivial⟩
                    case measure => simp [intOf]; omega
                · have hxd : decide (0 < x) = false := decide_eq_false hx
                  have HN2 : Hid (noughtB (es.take (l + 1)) args = false) := by show _ = _; rw [HN.out]; simp [hxd]
                  go_wp2
                  go_roundw
                  case rel => exact ⟨l + 1, by omega, by go_num, by rw [HN2.out], trivial⟩
                  case measure => simp [intOf]; omega
              · rw [hB] at HN
                clear hB
                have HN2 : Hid (noughtB (es.take (l + 1)) args = true) := by show _ = _; rw [HN.out]; simp
                go_wp2
                go_roundw
                case rel => exact ⟨l + 1, by omega, by go_num, by rw [HN2.out], trivial⟩
                case measure => simp [intOf]; omega
            · have hle2 : es.take l = es := List.take_of_length_le (by omega)
              rw [hle2]
              clear hle2
              cases hN : noughtB es args
              rotate_left
              · have HDo2 : Hid (docGo args [] p = docGo args O (p.drop (k + 1))) := by
                  show _ = _
                  rw [HDo.out, HDr.out, docGo]
                  simp only
                  rw [hN, if_pos rfl]
                clear hN
                go_wp2
                go_roundw
                case rel => exact ⟨k + 1, O, by omega, by go_num, HDo2.out, HOl.out, HMs.out, HBl.out⟩
                case measure => simp [intOf]; omega
              have HDo2 : Hid (docGo args [] p = if (facR es args [(c, [])]).2 = 0 then (if addPE O (facR es args [(c, [])]).1 = 0 then docGo args (addPL O (facR es args [(c, [])]).1) (p.drop (k + 1)) else ([], addPE O (facR es args [(c, [])]).1)) else ([], (facR es args [(c, [])]).2)) := by
                show _ = _
                rw [HDo.out, HDr.out, docGo]
                simp only
                rw [hN, if_neg (by decide)]
              clear hN HDo HDr
              have HBad : Hid (∀ e : Int, ¬ e = 0 → docGo args [] p = ([], e) → compE p args = e ∧ compL p args = []) := fun e he hd => by
                refine ⟨by rw [HComp.out.1, hd], HComp.out.2.2 ?_⟩
                rw [hd]
                exact he
              have HOne : Hid (Ms (only A (wA.alloc (.cells #[.slice a1 c.length c1, .slice none 0 0] 46))) (.slice (some ⟨wA.heap.size, 0, none⟩) 1 1) [(c, [])]) :=
                ms_alloc1 (m := (c, [])) ⟨HMo.out.1.kp (only_below HBl.out), Row.nil (Nat.zero_le _)⟩ (HA.out _ HBl.out.size) _
              go_wp2
              go_loopw [12, 13] (fun y i ws => ∃ (l : Nat) (X : List Mn), l ≤ es.length ∧ i = .int .i64 l ∧ facR es args [(c, [])] = facR (es.drop l) (args.drop l) X ∧ (∀ m ∈ X, m.2.length ≤ 512) ∧ Ms (only A ws) y X ∧ Below wA.heap.size wA ws) (fun _ i _ => es.length - (intOf i).toNat)
              case atStart => exact ⟨0, [(c, [])], by omega, rfl, rfl, fun m hm => (by simp at hm; subst hm; simp), HOne.out, below_alloc _⟩
              case round =>
                obtain ⟨l2, X, hl2, rfl, hfa, hXl, hmy, hby⟩ := hrel
                obtain ⟨wB, rfl⟩ : ∃ X, X = wr := ⟨wr, rfl⟩
                have HFa : Hid (facR es args [(c, [])] = facR (es.drop l2) (args.drop l2) X) := hfa
                have HXl : Hid (∀ m ∈ X, m.2.length ≤ 512) := hXl
                have HMy : Hid (Ms (only A wB) u12 X) := hmy
                have HBy : Hid (Below wA.heap.size wA wB) := hby
                have HBw : Hid (Below w.heap.size w wB) := below_step HBl.out hby
                have hcB := (Kp.of_below hby).cell _ _ hc1
                clear hfa hXl hmy
                by_cases hll2 : l2 < es.length
                · obtain ⟨g2, o2, x, rfl, hx1, hx2, hx3, hx4⟩ := (HIs.out.kp (Kp.of_below hby)).at hll2
                  obtain ⟨g3, o3, f, b1, d1, rfl, hy1, hy2', hy3, hy4, hy5⟩ := HQ.out.at (k := l2) (by omega)
                  have hy2 := ((only_kp A w).trans (Kp.of_below HBw.out)).cell _ _ hy2'
                  have hla2 : l2 < args.length := by omega
                  have hxx := HGm.out.2.2.2 x (List.mem_of_getElem? hx1)
                  have hx0 : 0 ≤ x := hxx.1
                  have HXx : Hid (0 ≤ x ∧ x ≤ 64) := hxx
                  have HMf : Hid (Ms (only A w) (.slice b1 f.length d1) f) := hy3
                  have HFl : Hid (∀ m ∈ f, m.2.length ≤ 4611686018427387904) := HLf.out f (List.mem_of_getElem? hy1)
                  have HFa2 : Hid (facR es args [(c, [])] = contF f (x.toNat - 0) (es.drop (l2 + 1)) (args.drop (l2 + 1)) X) := by
                    show _ = _
                    rw [HFa.out, drop_get hx1, drop_get hy1]
                    rfl
                  clear hx1 hy1 hy3 hy2' hby hxx HFa
                  go_wp2
                  go_loopw [12, 14] (fun y i ws => ∃ (n : Nat) (X2 : List Mn), n ≤ x.toNat ∧ i = .int .i64 n ∧ facR es args [(c, [])] = contF f (x.toNat - n) (es.drop (l2 + 1)) (args.drop (l2 + 1)) X2 ∧ (∀ m ∈ X2, m.2.length ≤ 512) ∧ Ms (only A ws) y X2 ∧ Below wB.heap.size wB ws) (fun _ i _ => x.toNat - (intOf i).toNat)
                  case atStart => exact ⟨0, X, by omega, rfl, HFa2.out, HXl.out, HMy.out, Below.refl _ _⟩
                  case round =>
                    obtain ⟨n, X2, hn, rfl, hfa, hXl, hmz, hbz⟩ := hrel
                    obtain ⟨wC, rfl⟩ : ∃ X, X = wr := ⟨wr, rfl⟩
                    have HFc : Hid (facR es args [(c, [])] = contF f (x.toNat - n) (es.drop (l2 + 1)) (args.drop (l2 + 1)) X2) := hfa
                    have HXl2 : Hid (∀ m ∈ X2, m.2.length ≤ 512) := hXl
                    have HMz : Hid (Ms (only A wC) u12 X2) := hmz
                    have HBz : Hid (Below w.heap.size w wC) := below_step HBw.out hbz
                    have HBc : Hid (Below wB.heap.size wB wC) := hbz
                    have hcC := (Kp.of_below hbz).cell _ _ hcB
                    have hxC := (Kp.of_below hbz).cell _ _ hx2
                    have hyC := (Kp.of_below hbz).cell _ _ hy2
                    clear hfa hXl hmz hbz
                    by_cases hnx : (n : Int) < x
                    · go_wp2_with fail
                      refine (refMulP_any A _ _ X2 f _ HMz.out (HMf.out.kp (only_below HBz.out)) (fun g hg => HA.out g (Nat.le_trans HBz.out.size hg)) (fun m hm => Nat.le_trans (HXl2.out m hm) (by omega)) HFl.out).mono ?_
                      rintro e wD ⟨vD, rfl, mD, hbD⟩
                      have HBD : Hid (Below wB.heap.size wB wD) := below_step HBc.out hbD
                      have HBDw : Hid (Below w.heap.size w wD) := below_step HBz.out hbD
                      have hst : contF f (x.toNat - n) (es.drop (l2 + 1)) (args.drop (l2 + 1)) X2 = if mulPE X2 f = 0 then contF f (x.toNat - (n + 1)) (es.drop (l2 + 1)) (args.drop (l2 + 1)) (mulPL X2 f) else ([], mulPE X2 f) := by
                        rw [show x.toNat - n = (x.toNat - (n + 1)) + 1 by omega]
                        exact contF_succ _ _ _ _ _
                      by_cases hme : mulPE X2 f = 0
                      · have HNf : Hid (facR es args [(c, [])] = contF f (x.toNat - (n + 1)) (es.drop (l2 + 1)) (args.drop (l2 + 1)) (mulPL X2 f)) := by show _ = _; rw [HFc.out, hst, if_pos hme]
                        have HMD : Hid (Ms (only A wD) vD (mulPL X2 f)) := mD
                        have HNl : Hid (∀ m ∈ mulPL X2 f, m.2.length ≤ 512) := fun m hm => ((mulPL_lens HMz.out.limA HMf.out.limA).2 m hm).2
                        rw [hme]
                        clear hme hst mD hbD hcC hxC hyC HFc
                        go_wp2
                        go_roundw
                        case rel => exact ⟨n + 1, mulPL X2 f, by omega, by go_num, HNf.out, HNl.out, HMD.out, HBD.out⟩
                        case measure => simp [intOf]; omega
                      · have hfr : facR es args [(c, [])] = ([], mulPE X2 f) := by rw [HFc.out, hst, if_neg hme]
                        have HC : Hid (compE p args = mulPE X2 f ∧ compL p args = []) := HBad.out _ hme (by rw [HDo2.out, hfr]; simp only; rw [if_neg hme])
                        obtain ⟨E2, hE2⟩ : ∃ E2, E2 = mulPE X2 f := ⟨_, rfl⟩
                        rw [← hE2] at HC hme ⊢
                        have hb0 : (E2 != 0) = true := by rw [bne_iff_ne]; exact hme
                        clear hfr hst mD hbD hcC hxC hyC HFc hE2
                        go_wp2
                        go_ret2
                        exact ⟨_, ret2i HC.out.1.symm, by rw [HC.out.2]; exact Row.nil (Nat.zero_le _), HBDw.out⟩
                    · have hnd : decide ((n : Int) < x) = false := decide_eq_false hnx
                      have HNx : Hid (facR es args [(c, [])] = facR (es.drop (l2 + 1)) (args.drop (l2 + 1)) X2) := by
                        show _ = _
                        rw [HFc.out, show x.toNat - n = 0 by omega, contF_zero]
                      go_wp2
                      go_roundw
                      case rel => exact ⟨l2 + 1, X2, by omega, by go_num, HNx.out, HXl2.out, HMz.out, below_step HBy.out HBc.out⟩
                      case measure => simp [intOf]; omega
                · have hfr : facR es args [(c, [])] = (X, 0) := by
                    rw [HFa.out, List.drop_of_length_le (by omega)]
                    rfl
                  have HDo3 : Hid (docGo args [] p = if addPE O X = 0 then docGo args (addPL O X) (p.drop (k + 1)) else ([], addPE O X)) := by
                    show _ = _
                    rw [HDo2.out, hfr]
                    simp only
                    rw [if_pos trivial]
                  have HMs2 : Hid (Ms (only A wB) u8 O) := HMs.out.kp (only_below hby)
                  clear hby hfr HFa
                  go_wp2_with fail
                  refine (refAddP_any A _ _ O X _ HMs2.out HMy.out (fun g hg => HA.out g (Nat.le_trans HBw.out.size hg)) (fun m hm => Nat.le_trans (HOl.out m hm) (by omega)) (fun m hm => Nat.le_trans (HXl.out m hm) (by omega))).mono ?_
                  rintro e wD ⟨vD, rfl, mD, hbD⟩
                  have HBDw : Hid (Below w.heap.size w wD) := below_step HBw.out hbD
                  by_cases hae : addPE O X = 0
                  · have HNd : Hid (docGo args [] p = docGo args (addPL O X) (p.drop (k + 1))) := by show _ = _; rw [HDo3.out, if_pos hae]
                    have HMD : Hid (Ms (only A wD) vD (addPL O X)) := mD
                    have HNl : Hid (∀ m ∈ addPL O X, m.2.length ≤ 512) := fun m hm => ((addPL_lens HMs2.out.limA HMy.out.limA).2 m hm).2
                    rw [hae]
                    clear hae mD hbD hcB
                    go_wp2
                    go_roundw
                    case rel => exact ⟨k + 1, addPL O X, by omega, by go_num, HNd.out, HNl.out, HMD.out, HBDw.out⟩
                    case measure => simp [intOf]; omega
                  · have HC : Hid (compE p args = addPE O X ∧ compL p args = []) := HBad.out _ hae (by rw [HDo3.out, if_neg hae])
                    obtain ⟨E2, hE2⟩ : ∃ E2, E2 = addPE O X := ⟨_, rfl⟩
                    rw [← hE2] at HC hae ⊢
                    have hb0 : (E2 != 0) = true := by rw [bne_iff_ne]; exact hae
                    clear mD hbD hcB hE2
                    go_wp2
                    go_ret2
                    exact ⟨_, ret2i HC.out.1.symm, by rw [HC.out.2]; exact Row.nil (Nat.zero_le _), HBDw.out⟩
        · have hke : k = p.length := by omega
          subst hke
          have hz : docGo args [] p = (O, 0) := by rw [HDo.out, List.drop_of_length_le (Nat.le_refl _)]; rfl
          have HC : Hid (compE p args = 0 ∧ compL p args = O) := by
            refine ⟨by rw [HComp.out.1, hz], ?_⟩
            rw [HComp.out.2.1 (by rw [hz]), hz]
          clear hz HDo KW
          go_wp2
          go_ret2
          exact ⟨_, ret2i HC.out.1.symm, by rw [HC.out.2]; exact HMs.out, HBl.out⟩

end Go.Proofs.Ytfifgmcjilkigaa
