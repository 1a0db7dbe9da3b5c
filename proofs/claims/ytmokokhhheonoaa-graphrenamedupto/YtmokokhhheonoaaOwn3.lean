/- Texts of the proof, one behind the other. -/
import Derived.Test.YtmokokhhheonoaaOwn2
import Derived.Shelf.Bits.Mul64
/- closeFrom of package graph walked. -/
namespace Go.Proofs.Ytmokokhhheonoaa
open Go.RowKit Go.Maps Go.BigFrame

/-- What is closed as far as the place i of the tail. -/
def clA14 (s : Sr) (T : List Nat) (i : Nat) : Nat → Int := fun x => if x ∈ T.take i then closedN else s.A x

theorem clA_zero (s : Sr) (T : List Nat) : clA14 s T 0 = s.A := by funext x; simp [clA14]

theorem clA_step {s : Sr} {T : List Nat} {i k : Nat} (h : T[i]? = some k) : updI (clA14 s T i) k closedN = clA14 s T (i + 1) := by
  funext x
  unfold updI clA14
  rw [take_get h]
  by_cases e : x = k
  · simp [e]
  · simp [e]

open Classical in
noncomputable def closeP (G : List (List Int)) (s : Sr) (node : Nat) : List (List Nat) := if (s.tail node).length = 1 ∧ ¬ Ed G node node then s.ps else s.ps ++ [sortN (s.tail node)]

theorem closeP_one {G : List (List Int)} {s : Sr} {node : Nat} (h : (s.tail node).length = 1) (hn : ¬ Ed G node node) : closeP G s node = s.ps := by unfold closeP; rw [if_pos ⟨h, hn⟩]

theorem closeP_more {G : List (List Int)} {s : Sr} {node : Nat} (h : (s.tail node).length ≠ 1 ∨ Ed G node node) : closeP G s node = s.ps ++ [sortN (s.tail node)] := by
  unfold closeP
  rw [if_neg]
  rintro ⟨h1, h2⟩
  rcases h with h | h
  · exact h h1
  · exact h2 h

theorem ed_self {G : List (List Int)} {es : List Int} {k : Nat} (h : G[k]? = some es) : Ed G k k ↔ (k : Int) ∈ es :=
  ⟨fun ⟨fs, h1, h2, _⟩ => by rw [h] at h1; cases h1; exact h2, fun hm => ⟨es, h, hm, (List.getElem?_eq_some_iff.1 h).1⟩⟩

/-- The search's rows but the open ones, all closed. -/
theorem close_eq (G : List (List Int)) (s : Sr) (node : Nat) : s.close node s.pa (closeP G s node) = { s with op := s.op.take (s.A node).toNat, A := clA14 s (s.tail node) (s.tail node).length, ps := closeP G s node } := by
  unfold Sr.close clA14
  rw [List.take_length]

set_option maxRecDepth 100000 in
set_option maxHeartbeats 3200000 in
theorem closeFrom_any {F : List (Nat × Value × TypeId)} {w0 w : World} {b k j : Nat} {G : List (List Int)} {s : Sr} {gv opv atv lev gov pav psv : Value} {vs : List Value} (h : SM F w0 w b G.length s gv opv atv lev gov pav psv vs) (hG : Rs w0 gv G) (hk : k < G.length) (hj : s.A k = (j : Int)) (hjl : j < s.op.length) (hlt : ∀ x ∈ s.op, x < G.length) (hn : G.length ≤ 1048576) (hop : s.op.length ≤ 1048576) (hps : s.ps.length ≤ 1048576) :
    Calls Try.prog 29 #[.pointer (some ⟨b, 0, none⟩), .int .i64 (k : Int)] w fun e w' => e = .returned (.tuple #[]) ∧ ∃ opv' psv' vs', SM F w0 w' b G.length (s.close k s.pa (closeP G s k)) gv opv' atv lev gov pav psv' vs' := by
  have HEq := hid (close_eq G s k)
  obtain ⟨⟨oo, oc, hopv, ho1, ho2⟩, ⟨ga, ca, rfl, ha1, ha2⟩, -, -, -⟩ := h.forms (by omega)
  obtain ⟨g, c9, hv9⟩ := own_form (h.own.own 0 _ _ rfl).2 (by rw [natL_len]; omega)
  rw [hopv, natL_len] at hv9
  simp only [Value.slice.injEq, true_and] at hv9
  obtain ⟨rfl, rfl⟩ := hv9
  subst hopv
  unfold maxLen at ho2 ha2
  obtain ⟨T, hT⟩ : ∃ T, T = s.tail k := ⟨_, rfl⟩
  have hTd : T = s.op.drop j := by rw [hT]; unfold Sr.tail; rw [hj]; rfl
  have hTl : T.length = s.op.length - j := by rw [hTd, List.length_drop]
  have hTr : ∀ (i x : Nat), T[i]? = some x → w.cell? ⟨g, j + i, none⟩ = some (.int .i64 (x : Int)) ∧ x < G.length := fun i x hi => by
    rw [hTd, List.getElem?_drop] at hi
    exact ⟨((h.own.own 0 _ _ rfl).at (natL_get hi)).1, hlt x (List.mem_of_getElem? hi)⟩
  have hgne : g ≠ ga := fun e => (h.own.dis 0 1 _ _ _ _ (by decide) rfl rfl) g rfl (by rw [e]; rfl)
  obtain ⟨x0, x1, x2, x3, x4, x5, x6⟩ := h.cells
  obtain ⟨a1, a2⟩ := (h.own.own 1 _ _ rfl).at (rngI_get s.A hk)
  rw [hj] at a1
  have f1 := h.froz 1
  have hjj : (s.A k).toNat = j := by rw [hj]; rfl
  obtain ⟨W1, hW1⟩ : ∃ X, X = w.drew := ⟨_, rfl⟩
  have h1 := h.later (w' := W1) (by rw [hW1]; exact (Below.refl _ _).drew)
  have H1 := hid h1
  have HTr : Hid (∀ (i x : Nat), T[i]? = some x → W1.cell? ⟨g, j + i, none⟩ = some (.int .i64 (x : Int)) ∧ x < G.length) := by rw [hW1]; exact hTr
  have HT := hid hT
  have HTl := hid hTl
  have hTl2 : T.length = s.op.length - j := hTl
  have HJ := hid hjj
  have HGr := hid hG
  have hne : ¬ oc = j := by omega
  have hjo : j ≤ oc := by omega
  clear h hTr hT hTd h1 hG hjj hlt hTl
  go_enter Try.func29, Try.ntmps29
  go_wp2
  go_region
  rw [← hW1]
  clear hW1 x0 x1 x2 x3 x4 x5 x6 a1 a2 f1
  have h1 := H1.out
  obtain ⟨x0, x1, x2, x3, x4, x5, x6⟩ := h1.cells
  have f1 := h1.froz 1
  obtain ⟨a1, a2⟩ := (h1.own.own 1 _ _ rfl).at (rngI_get s.A hk)
  rw [hj] at a1
  have h2 := h1.cutOp (m := j) (by omega)
  obtain ⟨W2, hW2⟩ : ∃ X, X = W1.setCell ⟨b, 1, none⟩ (.slice (some ⟨g, 0, none⟩) j oc) := ⟨_, rfl⟩
  rw [← hW2] at h2
  have hbg : (⟨g, 0, none⟩ : Addr).block ≠ b := fun e => own_ne (h1.own.own 0 _ _ rfl).2 h1.blk ty_search.1 (by rw [← e]; rfl)
  have HT2 : Hid (∀ (i x : Nat), T[i]? = some x → W2.drew.cell? ⟨g, j + i, none⟩ = some (.int .i64 (x : Int)) ∧ x < G.length) := fun i x hi => by
    obtain ⟨q1, q2⟩ := HTr.out i x hi
    refine ⟨?_, q2⟩
    show W2.cell? _ = _
    rw [hW2, World.cell?_setCell_other _ _ _ _ (fun e => hbg (congrArg Addr.block e).symm)]
    exact q1
  have H2 := hid (h2.later (w' := W2.drew) (Below.refl _ _).drew)
  clear h1 h2 H1 HTr
  go_wp2
  go_region
  rw [← hW2]
  clear hW2 x0 x1 x2 x3 x4 x5 x6 a1 a2 f1
  generalize W2.drew = w2 at H2 HT2 ⊢
  rw [← hTl2]
  have hTp : 0 < T.length := by omega
  have hTo : T.length ≤ 1048576 := by omega
  have hTc : T.length ≤ oc - j := by omega
  clear hTl2
  go_wp2
  go_loopw [37] (fun iv wr => ∃ i : Nat, i ≤ T.length ∧ iv = .int .i64 i ∧ SM F w0 wr b G.length { s with op := s.op.take j, A := clA14 s T i } gv (.slice (some ⟨g, 0, none⟩) j oc) (.slice (some ⟨ga, 0, none⟩) G.length ca) lev gov pav psv vs ∧ (∀ (i x : Nat), T[i]? = some x → wr.cell? ⟨g, j + i, none⟩ = some (.int .i64 (x : Int)) ∧ x < G.length)) (fun iv _ => T.length - (intOf iv).toNat)
  case atStart => exact ⟨0, Nat.zero_le _, rfl, by rw [clA_zero]; exact H2.out, HT2.out⟩
  case round =>
    obtain ⟨i, hi, rfl, hS, hC⟩ := hrel
    have HS := hid hS
    have HC := hid hC
    clear hS hC H2 HT2
    by_cases hlt : i < T.length
    · have hd : decide ((i : Int) < (T.length : Int)) = true := by simpa using hlt
      obtain ⟨x, hx⟩ : ∃ x, T[i]? = some x := ⟨_, List.getElem?_eq_getElem hlt⟩
      have HX := hid hx
      obtain ⟨c1, hxn⟩ := HC.out i x hx
      have hxi : x < 9223372036854775807 := by omega
      have h1 := HS.out
      obtain ⟨x0, x1, x2, x3, x4, x5, x6⟩ := h1.cells
      obtain ⟨a1, a2⟩ := (h1.own.own 1 _ _ rfl).at (rngI_get (clA14 s T i) hxn)
      have h3 := h1.setA (k := x) (v := closedN) (by unfold closedN; omega)
      obtain ⟨W3, hW3⟩ : ∃ X, X = wr.setCell ⟨ga, x, none⟩ (.int .i64 closedN) := ⟨_, rfl⟩
      rw [← hW3] at h3
      rw [clA_step hx] at h3
      have HS3 := hid h3
      have HC3 : Hid (∀ (i x : Nat), T[i]? = some x → W3.cell? ⟨g, j + i, none⟩ = some (.int .i64 (x : Int)) ∧ x < G.length) := fun i x hi => by
        obtain ⟨q1, q2⟩ := HC.out i x hi
        refine ⟨?_, q2⟩
        rw [hW3, World.cell?_setCell_other _ _ _ _ (fun e => hgne (congrArg Addr.block e).symm)]
        exact q1
      unfold closedN at hW3
      clear h1 h3 hx
      go_wp2
      rw [← hW3]
      go_roundw
      case rel => exact ⟨i + 1, hlt, by go_num, HS3.out, HC3.out⟩
      case measure => simp only [intOf]; omega
    · have hiT : T.length = i := by omega
      clear hlt hi
      have HiT := hid hiT
      rw [hiT] at hTp hTo hTc ⊢
      have h1 := HS.out
      obtain ⟨x0, x1, x2, x3, x4, x5, x6⟩ := h1.cells
      have hgr := (HGr.out).kp (Kp.of_below h1.bel)
      obtain ⟨gao, gcp, hgv, hg1, hg2, hg3⟩ := hgr
      obtain ⟨gg, go, hga, hgg, hge⟩ := hg3 (by omega)
      obtain ⟨es, hes⟩ : ∃ es, G[k]? = some es := ⟨_, List.getElem?_eq_getElem hk⟩
      obtain ⟨_, u, hu, hui⟩ := hge k es hes
      rw [Nat.mul_one] at hu
      have HEs := hid hes
      subst hga
      have HGv := hid hgv
      have HCl : Hid (∀ W, Below wr.heap.size wr W → Is W (.slice (some ⟨g, j, none⟩) i (oc - j)) (natL T)) := fun W hW => by
        refine ⟨some ⟨g, j, none⟩, oc - j, by rw [natL_len, hiT], by rw [natL_len, hiT]; exact hTc, by unfold maxLen; omega, fun _ => ⟨g, j, rfl, ?_, ?_⟩⟩
        · obtain ⟨q1, _⟩ := HC.out 0 _ (List.getElem?_eq_getElem (by rw [hiT]; exact hTp))
          exact Nat.lt_of_lt_of_le (World.block_lt_of_cell? _ _ q1) hW.size
        · intro m x hm
          unfold natL at hm
          rw [List.getElem?_map] at hm
          cases hTm : T[m]? with
          | none => rw [hTm] at hm; simp at hm
          | some y =>
            rw [hTm] at hm
            simp at hm
            obtain ⟨q1, q2⟩ := HC.out m y hTm
            subst hm
            refine ⟨by omega, by omega, ?_⟩
            rw [Nat.mul_one]
            exact (Kp.of_below hW).cell _ _ q1
      have HUi := hid hui
      subst hgv
      clear h1 hes hge hg3 hui HGv hiT
      by_cases hone : i = 1
      · subst hone
        have HCt := hid (hasI_any u es (k : Int) wr HUi.out)
        by_cases hmem : (k : Int) ∈ es
        · have hdm : decide ((k : Int) ∈ es) = true := by simpa using hmem
          have HMo : Hid ((s.tail k).length ≠ 1 ∨ Ed G k k) := .inr ((ed_self HEs.out).2 hmem)
          rw [hdm] at HCt
          clear hdm hmem
          have HCn := hid (cloneI_any _ (natL T) wr (HCl.out wr (Below.refl _ _)) (by rw [natL_len, HiT.out]; omega) (by rw [natL_len, HiT.out]; omega))
          go_upto_region 8 with (first | (go_at_call 43; refine HCt.out.mono ?_; rintro e w9 ⟨rfl, hw9⟩; have hw8 := hw9.symm; subst hw8; clear hw9))
          go_wp2_with fail
          refine HCn.out.mono ?_
          rintro e w4 ⟨v4, rfl, ho4, hb4⟩
          have HSo := hid (sortI_any v4 (natL T) w4 wr.heap.size ho4 (by rw [natL_len, HiT.out]; omega))
          obtain ⟨ao4, c4, hv4, _, _⟩ := ho4.shape
          rw [natL_len, HiT.out] at hv4
          have HO4 := hid ho4
          have HB4 := hid hb4
          clear HCn ho4 hb4
          subst hv4
          go_wp2_with fail
          refine HSo.out.mono ?_
          rintro e w5 ⟨rfl, ho5, hg5⟩
          rw [sortI_nat] at ho5
          have hb5 : Below wr.heap.size wr w5 := HB4.out.grown hg5 HB4.out.size (fun k hk => own_blk HO4.out.2 hk)
          obtain ⟨v6, w6, hr6, b6, ⟨a6, m6, c6, rfl⟩, h6⟩ := HS.out.pushPart 22 hb5 ho5 (by show (s.ps.length + 1) * 24 ≤ _; omega)
          have f6 : w6.frozen? ⟨b, 6, none⟩ = false := frozen_of_row w6 b 6 _ _ b6
          have HR6 := hid hr6
          obtain ⟨W6, hW6⟩ : ∃ X, X = w6.setCell ⟨b, 6, none⟩ (.slice a6 m6 c6) := ⟨_, rfl⟩
          rw [← hW6] at h6
          have y6 : w6.cell? ⟨b, 6, none⟩ = some psv := cell_of_row w6 b 6 _ _ _ b6
          have x6 := (Kp.of_below hb5).cell _ _ x6
          have x0 := (Kp.of_below hb5).cell _ _ x0
          have HFin : Hid (SM F w0 W6 b G.length (s.close k s.pa (closeP G s k)) (.slice (some ⟨gg, go, none⟩) G.length gcp) (.slice (some ⟨g, 0, none⟩) j oc) (.slice (some ⟨ga, 0, none⟩) G.length ca) lev gov pav (.slice a6 m6 c6) (vs ++ [.slice ao4 1 c4])) := by
            have h9 := h6
            rw [HEq.out, closeP_more HMo.out, HJ.out, ← HT.out]
            rw [HiT.out]
            exact h9
          clear hr6 b6 h6 ho5 hg5 hb5 HSo HO4
          go_wp2_with (first
            | (at_builtin; refine wpList_append_run rfl _ _ _ rfl _ _ rfl rfl HR6.out ?_))
          rw [← hW6]
          go_end0
          exact ⟨rfl, _, _, _, HFin.out⟩
        · have hdm : decide ((k : Int) ∈ es) = false := by simpa using hmem
          have HNo : Hid ((s.tail k).length = 1 ∧ ¬ Ed G k k) := ⟨by rw [← HT.out]; exact HiT.out, fun he => hmem ((ed_self HEs.out).1 he)⟩
          rw [hdm] at HCt
          clear hdm hmem
          go_wp2_with (first | (go_at_call 43; refine HCt.out.mono ?_; rintro e w9 ⟨rfl, hw9⟩; have hw8 := hw9.symm; subst hw8; clear hw9))
          refine bodyPost_ret (results_none rfl _ _ _) rfl ?_
          refine ⟨rfl, .slice (some ⟨g, 0, none⟩) j oc, psv, vs, ?_⟩
          rw [HEq.out, closeP_one HNo.out.1 HNo.out.2, HJ.out, ← HT.out, HiT.out]
          exact HS.out
      · have HMo : Hid ((s.tail k).length ≠ 1 ∨ Ed G k k) := .inl (by rw [← HT.out, HiT.out]; exact hone)
        have hone2 : decide ((i : Int) = 1) = false := by simp; omega
        have HCn := hid (cloneI_any _ (natL T) wr (HCl.out wr (Below.refl _ _)) (by rw [natL_len, HiT.out]; omega) (by rw [natL_len, HiT.out]; omega))
        go_upto_region 8 with fail
        go_wp2_with fail
        refine HCn.out.mono ?_
        rintro e w4 ⟨v4, rfl, ho4, hb4⟩
        have HSo := hid (sortI_any v4 (natL T) w4 wr.heap.size ho4 (by rw [natL_len, HiT.out]; omega))
        obtain ⟨ao4, c4, hv4, _, _⟩ := ho4.shape
        rw [natL_len, HiT.out] at hv4
        have HO4 := hid ho4
        have HB4 := hid hb4
        clear HCn ho4 hb4
        subst hv4
        go_wp2_with fail
        refine HSo.out.mono ?_
        rintro e w5 ⟨rfl, ho5, hg5⟩
        rw [sortI_nat] at ho5
        have hb5 : Below wr.heap.size wr w5 := HB4.out.grown hg5 HB4.out.size (fun k hk => own_blk HO4.out.2 hk)
        obtain ⟨v6, w6, hr6, b6, ⟨a6, m6, c6, rfl⟩, h6⟩ := HS.out.pushPart 22 hb5 ho5 (by show (s.ps.length + 1) * 24 ≤ _; omega)
        have f6 : w6.frozen? ⟨b, 6, none⟩ = false := frozen_of_row w6 b 6 _ _ b6
        have HR6 := hid hr6
        obtain ⟨W6, hW6⟩ : ∃ X, X = w6.setCell ⟨b, 6, none⟩ (.slice a6 m6 c6) := ⟨_, rfl⟩
        rw [← hW6] at h6
        have y6 : w6.cell? ⟨b, 6, none⟩ = some psv := cell_of_row w6 b 6 _ _ _ b6
        have x6 := (Kp.of_below hb5).cell _ _ x6
        have x0 := (Kp.of_below hb5).cell _ _ x0
        have HFin : Hid (SM F w0 W6 b G.length (s.close k s.pa (closeP G s k)) (.slice (some ⟨gg, go, none⟩) G.length gcp) (.slice (some ⟨g, 0, none⟩) j oc) (.slice (some ⟨ga, 0, none⟩) G.length ca) lev gov pav (.slice a6 m6 c6) (vs ++ [.slice ao4 i c4])) := by
          have h9 := h6
          rw [HEq.out, closeP_more HMo.out, HJ.out, ← HT.out]
          rw [HiT.out]
          exact h9
        clear hr6 b6 h6 ho5 hg5 hb5 HSo HO4
        go_wp2_with (first
          | (at_builtin; refine wpList_append_run rfl _ _ _ rfl _ _ rfl rfl HR6.out ?_))
        rw [← hW6]
        go_end0
        exact ⟨rfl, _, _, _, HFin.out⟩

end Go.Proofs.Ytmokokhhheonoaa

/- leave of package graph walked. -/
namespace Go.Proofs.Ytmokokhhheonoaa
open Go.RowKit Go.Maps Go.BigFrame

theorem SInv.closed {G : List (List Int)} {s : Sr} (h : SInv G s) {pre : List Nat} {node : Nat} (hp : s.pa = pre ++ [node]) (hL : s.L node = s.A node) (hg : ∀ es, G[node]? = some es → s.g node = es.length) : SInv G (s.close node pre (closeP G s node)) := by
  have t := h.tail hp hL hg
  have hd : (s.tail node).Nodup := List.Nodup.sublist (List.drop_sublist _ _) h.opDup
  refine h.close hp hL hg ?_
  by_cases h1 : (s.tail node).length = 1 ∧ ¬ Ed G node node
  · rw [closeP_one h1.1 h1.2]
    refine .inr ⟨fun hw => h1.2 ((t.alone fun x hx => ?_).1 hw), rfl⟩
    obtain ⟨y, hy⟩ := List.length_eq_one_iff.1 h1.1
    have h2 := t.self
    rw [hy] at hx h2
    simp at hx h2
    rw [hx, h2]
  · have h2 : (s.tail node).length ≠ 1 ∨ Ed G node node := by
      by_cases h3 : (s.tail node).length = 1
      · right
        exact Classical.byContradiction fun h4 => h1 ⟨h3, h4⟩
      · exact .inl h3
    rw [closeP_more h2]
    refine .inl ⟨?_, _, rfl, sortN_rise hd, fun k => sortN_mem _ _⟩
    rcases h2 with h2 | h2
    · have : ∃ x, x ∈ s.tail node ∧ x ≠ node := by
        have hs := t.self
        revert h2 hd hs
        generalize s.tail node = T
        intro hd h2 hs
        match T, hd, h2, hs with
        | [], _, _, hs => simp at hs
        | [x], _, h2, _ => simp at h2
        | x :: y :: r, hd, _, _ =>
          rw [List.nodup_cons] at hd
          by_cases hx : x = node
          · exact ⟨y, by simp, fun e => hd.1 (by rw [hx, ← e]; simp)⟩
          · exact ⟨x, by simp, hx⟩
      obtain ⟨x, hx, hne⟩ := this
      exact t.many hx (.inl hne)
    · exact .one h2

theorem close_met {s : Sr} {node x : Nat} {pre : List Nat} {ps : List (List Nat)} (h : s.A x ≠ -1) : (s.close node pre ps).A x ≠ -1 := by
  show (if x ∈ s.tail node then closedN else s.A x) ≠ -1
  split
  · unfold closedN; omega
  · exact h

set_option maxRecDepth 100000 in
set_option maxHeartbeats 3200000 in
theorem leave_any {F : List (Nat × Value × TypeId)} {w0 w : World} {b k : Nat} {G : List (List Int)} {s : Sr} {gv opv atv lev gov pav psv : Value} {vs : List Value} (h : SM F w0 w b G.length s gv opv atv lev gov pav psv vs) (hG : Rs w0 gv G) (hn : G.length ≤ 1048576) (hI : SInv G s) {pre : List Nat} (hp : s.pa = pre ++ [k]) (hgk : ∀ es, G[k]? = some es → s.g k = es.length) :
    Calls Try.prog 24 #[.pointer (some ⟨b, 0, none⟩), .int .i64 (k : Int)] w fun e w' => e = .returned (.tuple #[]) ∧ ∃ s' opv' pav' psv' vs', SM F w0 w' b G.length s' gv opv' atv lev gov pav' psv' vs' ∧ SInv G s' ∧ s'.pa = pre ∧ s'.g = s.g ∧ ∀ x, s.A x ≠ -1 → s'.A x ≠ -1 := by
  have hkp : k ∈ s.pa := by rw [hp]; simp
  obtain ⟨hk, ha0, hal, _⟩ := hI.open_lt (hI.pth k hkp)
  have hol := hI.opLen
  have hpl := hI.paLen
  have hsl := hI.psLen
  have hm : s.pa.length = pre.length + 1 := by rw [hp]; simp
  obtain ⟨⟨oo, oc, rfl, ho1, ho2⟩, ⟨ga, ca, rfl, ha1, ha2⟩, ⟨gl, cl, rfl, hl1, hl2⟩, -, ⟨po, pc, hpv, hp1, hp2⟩⟩ := h.forms (by omega)
  unfold maxLen at ho2 ha2 hl2 hp2
  obtain ⟨g, c9, hv9⟩ := own_form (h.own.own 4 _ _ rfl).2 (by rw [natL_len]; omega)
  rw [hpv, natL_len] at hv9
  simp only [Value.slice.injEq, true_and] at hv9
  obtain ⟨rfl, rfl⟩ := hv9
  subst hpv
  obtain ⟨m, hpm⟩ : ∃ m, m = pre.length := ⟨_, rfl⟩
  rw [← hpm] at hm
  have h1 := h.cutPa (m := m) (by omega)
  have etake : s.pa.take m = pre := by rw [hp, hpm]; simp
  rw [etake] at h1
  obtain ⟨x0, x1, x2, x3, x4, x5, x6⟩ := h.cells
  rw [hm] at x5
  have f5 := h.froz 5
  obtain ⟨W1, hW1⟩ : ∃ X, X = w.setCell ⟨b, 5, none⟩ (.slice (some ⟨g, 0, none⟩) m pc) := ⟨_, rfl⟩
  rw [← hW1] at h1
  have hmp : m ≤ pc := by omega
  have H1 := hid (h1.later (w' := W1.drew) (Below.refl _ _).drew)
  have hwr : IntKind.i64.wrap (((m + 1 : Nat) : Int) - 1) = (m : Int) := by rw [IntWalk.i64_in _ ⟨by omega, by omega⟩]; omega
  have HI := hid hI
  have HP := hid hp
  have HGk := hid hgk
  have HGr := hid hG
  have hms : m ≤ 1048576 := by omega
  have HPm := hid hpm
  clear h h1 hI hp hgk hG etake hpm hm hkp
  go_enter Try.func24, Try.ntmps24
  go_wp2
  go_region
  rw [← hW1]
  clear hW1 x0 x1 x2 x3 x4 x5 x6 f5
  generalize W1.drew = w1 at H1 ⊢
  have h1 := H1.out
  obtain ⟨x0, x1, x2, x3, x4, x5, x6⟩ := h1.cells
  obtain ⟨a1, a2⟩ := (h1.own.own 1 _ _ rfl).at (rngI_get s.A hk)
  obtain ⟨l1, l2⟩ := (h1.own.own 2 _ _ rfl).at (rngI_get s.L hk)
  have HCF : Hid (∀ W, SM F w0 W b G.length { s with pa := pre } gv (.slice oo s.op.length oc) (.slice (some ⟨ga, 0, none⟩) G.length ca) (.slice (some ⟨gl, 0, none⟩) G.length cl) gov (.slice (some ⟨g, 0, none⟩) m pc) psv vs → Calls Try.prog 29 #[.pointer (some ⟨b, 0, none⟩), .int .i64 (k : Int)] W fun e w' => e = .returned (.tuple #[]) ∧ ∃ opv' psv' vs', SM F w0 w' b G.length (s.close k pre (closeP G s k)) gv opv' (.slice (some ⟨ga, 0, none⟩) G.length ca) (.slice (some ⟨gl, 0, none⟩) G.length cl) gov (.slice (some ⟨g, 0, none⟩) m pc) psv' vs') := fun W hW => by
    obtain ⟨j, hj, hja⟩ := HI.out.pth k (by rw [HP.out]; simp)
    exact closeFrom_any (s := { s with pa := pre }) hW HGr.out hk (j := j) hja (List.getElem?_eq_some_iff.1 hj).1 (fun x hx => by obtain ⟨i, hi⟩ := List.getElem?_of_mem hx; exact (HI.out.opn i x hi).1) hn (by show s.op.length ≤ _; omega) (by show s.ps.length ≤ _; omega)
  clear h1
  by_cases hL : s.L k = s.A k
  · have HLe := hid hL
    rw [hL] at l1
    clear hL
    go_wp2
    go_region
    generalize hW2 : w1.drew = w2
    have H2 := hid (H1.out.later (w' := w2) (by rw [← hW2]; exact (Below.refl _ _).drew))
    clear hW2 x0 x1 x2 x3 x4 x5 x6 a1 a2 l1 l2 H1
    have HC2 := hid (HCF.out w2 H2.out)
    go_wp2_with fail
    refine HC2.out.mono ?_
    rintro e w3 ⟨rfl, opv', psv', vs', h3⟩
    have H3 := hid h3
    clear h3 HC2 HCF
    go_wp2
    refine bodyPost_ret (results_none rfl _ _ _) rfl ?_
    exact ⟨rfl, _, opv', _, psv', vs', H3.out, HI.out.closed HP.out HLe.out HGk.out, rfl, rfl, fun x hx => close_met hx⟩
  · obtain ⟨pre', ab, hpre⟩ := HI.out.above HP.out hL
    have hLd : (s.L k == s.A k) = false := by simpa using hL
    obtain ⟨q, hq⟩ : ∃ q, q = pre'.length := ⟨_, rfl⟩
    have hmq : m = q + 1 := by rw [HPm.out, hpre, hq]; simp
    subst hmq
    have hpq : pre[q]? = some ab := by rw [hpre, hq]; simp
    have hab := (HI.out.open_lt (HI.out.pth ab (by rw [HP.out, hpre]; simp))).1
    obtain ⟨p1, p2⟩ := (H1.out.own.own 4 _ _ rfl).at (natL_get hpq)
    obtain ⟨b1, b2⟩ := (H1.out.own.own 2 _ _ rfl).at (rngI_get s.L hab)
    have hwr2 : IntKind.i64.wrap (((q + 1 : Nat) : Int) - 1) = (q : Int) := by rw [IntWalk.i64_in _ ⟨by omega, by omega⟩]; omega
    have HPre := hid hpre
    have HLn := hid hL
    have hl0 : 0 ≤ s.L k ∧ s.L k ≤ s.A k := by
      obtain ⟨q1, z, hz, hz2, _⟩ := HI.out.low k (HI.out.pth k (by rw [HP.out]; simp))
      have := (HI.out.open_lt hz).2.1
      exact ⟨by omega, q1⟩
    have hb0 : 0 ≤ s.L ab ∧ s.L ab ≤ s.A ab ∧ s.A ab < s.op.length := by
      have ho := HI.out.pth ab (by rw [HP.out, hpre]; simp)
      obtain ⟨q1, z, hz, hz2, _⟩ := HI.out.low ab ho
      have := (HI.out.open_lt hz).2.1
      exact ⟨by omega, q1, (HI.out.open_lt ho).2.2.1⟩
    obtain ⟨M, hM⟩ : ∃ M, M = min (s.L ab) (s.L k) := ⟨_, rfl⟩
    have h3 := H1.out.setL (k := ab) (v := M) (by omega)
    obtain ⟨W3, hW3⟩ : ∃ X, X = w1.setCell ⟨gl, ab, none⟩ (.int .i64 M) := ⟨_, rfl⟩
    rw [← hW3] at h3
    have HFin : Hid (SInv G { s with pa := pre, L := updI s.L ab M } ∧ SM F w0 W3 b G.length { s with pa := pre, L := updI s.L ab M } gv (.slice oo s.op.length oc) (.slice (some ⟨ga, 0, none⟩) G.length ca) (.slice (some ⟨gl, 0, none⟩) G.length cl) gov (.slice (some ⟨g, 0, none⟩) (q + 1) pc) psv vs) := by
      refine ⟨?_, h3⟩
      have h9 := HI.out.leave (pre := pre') (ab := ab) (node := k) (by rw [HP.out, hpre]) HLn.out HGk.out
      rw [← hpre, ← hM] at h9
      exact h9
    clear hpre hpq hq h3 hL HCF
    go_wp2
    go_region
    go_wp2
    go_region
    go_wp2
    go_region
    rw [← hM, ← hW3]
    go_end0
    exact ⟨rfl, { s with pa := pre, L := updI s.L ab M }, .slice oo s.op.length oc, .slice (some ⟨g, 0, none⟩) (q + 1) pc, psv, vs, HFin.out.2.later (((Below.refl _ _).drew).drew).drew, HFin.out.1, rfl, rfl, fun _ h => h⟩

end Go.Proofs.Ytmokokhhheonoaa

/- The walk's closure of package graph walked. -/
namespace Go.Proofs.Ytmokokhhheonoaa
open Go.RowKit Go.Maps Go.BigFrame

/-- What is left to go along. -/
def measG (G : List (List Int)) (s : Sr) : Nat := ((List.range G.length).map fun i => (G.getD i []).length - s.g i).sum

theorem sum_upd (f h : Nat → Nat) (k : Nat) : ∀ n, k < n → (∀ i, i ≠ k → h i = f i) → h k + 1 = f k → ((List.range n).map h).sum + 1 = ((List.range n).map f).sum
  | 0, hk, _, _ => by omega
  | n + 1, hk, he, hk1 => by
    rw [List.range_succ, List.map_append, List.map_append, List.sum_append, List.sum_append]
    simp only [List.map_cons, List.map_nil, List.sum_cons, List.sum_nil, Nat.add_zero]
    by_cases e : k = n
    · subst e
      have : ((List.range k).map h) = ((List.range k).map f) := List.map_congr_left fun i hi => he i (by have := List.mem_range.1 hi; omega)
      rw [this]
      omega
    · have := sum_upd f h k n (by omega) he hk1
      rw [he n (fun e2 => e e2.symm)]
      omega

theorem measG_adv {G : List (List Int)} {s : Sr} {k : Nat} {es : List Int} (hes : G[k]? = some es) (hlt : s.g k < es.length) (s' : Sr) (hg : s'.g = updN s.g k (s.g k + 1)) : measG G s' + 1 = measG G s := by
  unfold measG
  rw [hg]
  have hk := (List.getElem?_eq_some_iff.1 hes).1
  refine sum_upd _ _ k _ hk (fun i hi => by rw [updN_ne _ _ hi]) ?_
  rw [updN_same, List.getD_eq_getElem?_getD, hes]
  simp only [Option.getD_some]
  omega

/-- The same, read out of memory. -/
def memG (G : List (List Int)) (gg : Nat) (w : World) : Nat := ((List.range G.length).map fun i => (G.getD i []).length - (match w.cell? ⟨gg, i, none⟩ with | some (.int _ z) => z.toNat | _ => 0)).sum

theorem memG_eq {F : List (Nat × Value × TypeId)} {w0 w : World} {b gg c : Nat} {G : List (List Int)} {s : Sr} {gv opv atv lev pav psv : Value} {vs : List Value} (h : SM F w0 w b G.length s gv opv atv lev (.slice (some ⟨gg, 0, none⟩) G.length c) pav psv vs) : memG G gg w = measG G s := by
  unfold memG measG
  congr 1
  refine List.map_congr_left fun i hi => ?_
  have := ((h.own.own 3 _ _ rfl).at (rngN_get s.g (List.mem_range.1 hi))).1
  rw [this]
  simp

/-- The state within a call of the closure, and behind it. -/
def Dn (F : List (Nat × Value × TypeId)) (w0 : World) (b : Nat) (G : List (List Int)) (gv atv lev gov : Value) (s0 : Sr) (pa : List Nat) (m : Nat) (w : World) : Prop :=
  ∃ s opv pav psv vs, SM F w0 w b G.length s gv opv atv lev gov pav psv vs ∧ SInv G s ∧ s.pa = pa ∧ (∀ x, s0.A x ≠ -1 → s.A x ≠ -1) ∧ measG G s ≤ m

abbrev downF (bs bd : Nat) : Value := .func (.func 22) #[] #[.pointer (some ⟨bs, 0, none⟩), .pointer (some ⟨bd, 0, none⟩)]

abbrev downC (b bs bd : Nat) : List (Nat × Value × TypeId) := [(bs, .pointer (some ⟨b, 0, none⟩), 34), (bd, downF bs bd, 41)]

theorem downC_cells {b bs bd : Nat} {w : World} (h : Fx (downC b bs bd) w) : w.cell? ⟨bs, 0, none⟩ = some (.pointer (some ⟨b, 0, none⟩)) ∧ w.cell? ⟨bd, 0, none⟩ = some (downF bs bd) :=
  by
  have h1 := (h (bs, .pointer (some ⟨b, 0, none⟩), 34) (by simp)).1
  have h2 := (h (bd, downF bs bd, 41) (by simp)).1
  exact ⟨cell_of_row w bs 0 _ _ _ h1, cell_of_row w bd 0 _ _ _ h2⟩

/-- The state within a call, by its parts. -/
def St14 (F : List (Nat × Value × TypeId)) (w0 : World) (b : Nat) (G : List (List Int)) (gv atv lev gov : Value) (s0 : Sr) (pa : List Nat) (m : Nat) (s : Sr) (opv pav psv : Value) (vs : List Value) (w : World) : Prop :=
  SM F w0 w b G.length s gv opv atv lev gov pav psv vs ∧ SInv G s ∧ s.pa = pa ∧ (∀ x, s0.A x ≠ -1 → s.A x ≠ -1) ∧ measG G s ≤ m

theorem updN_eq {f : Nat → Nat} {k v : Nat} (h : f k = v) : updN f k (v + 1) = updN f k (f k + 1) := by rw [h]

section
variable {F : List (Nat × Value × TypeId)} {w0 wr w1 : World} {b gg cg k m : Nat} {G : List (List Int)} {gv atv lev : Value} {s0 s : Sr} {opv pav psv opv' pav' psv' : Value} {vs vs' : List Value} {pre : List Nat} {es : List Int}

theorem st_out (hst : St14 F w0 b G gv atv lev (.slice (some ⟨gg, 0, none⟩) G.length cg) s0 (pre ++ [k]) m s opv pav psv vs wr) (hes : G[k]? = some es) (hlt : s.g k < es.length) {s' : Sr} (hg : s'.g = updN s.g k (s.g k + 1)) (h1 : SM F w0 w1 b G.length s' gv opv' atv lev (.slice (some ⟨gg, 0, none⟩) G.length cg) pav' psv' vs')
    (hI : SInv G s') (hp : s'.pa = pre ++ [k]) (hA : s'.A = s.A) : Dn F w0 b G gv atv lev (.slice (some ⟨gg, 0, none⟩) G.length cg) s0 (pre ++ [k]) m w1 ∧ memG G gg w1 < memG G gg wr := by
  obtain ⟨h, _, _, hmet, hms⟩ := hst
  have e := measG_adv hes hlt s' hg
  refine ⟨⟨s', opv', pav', psv', vs', h1, hI, hp, fun x hx => by rw [hA]; exact hmet x hx, by omega⟩, ?_⟩
  rw [memG_eq h1, memG_eq h]
  omega

theorem st_pass {tx : Int} (hst : St14 F w0 b G gv atv lev (.slice (some ⟨gg, 0, none⟩) G.length cg) s0 (pre ++ [k]) m s opv pav psv vs wr) (hes : G[k]? = some es) (hto : es[s.g k]? = some tx) (hx : tx < 0 ∨ (G.length : Int) ≤ tx)
    (h1 : SM F w0 w1 b G.length { s with g := updN s.g k (s.g k + 1) } gv opv atv lev (.slice (some ⟨gg, 0, none⟩) G.length cg) pav psv vs) : Dn F w0 b G gv atv lev (.slice (some ⟨gg, 0, none⟩) G.length cg) s0 (pre ++ [k]) m w1 ∧ memG G gg w1 < memG G gg wr := by
  have hlt := (List.getElem?_eq_some_iff.1 hto).1
  have hI : SInv G { s with g := updN s.g k (s.g k + 1) } := by
    have h9 := hst.2.1.adv (node := k) (by rw [hst.2.2.1]; simp) hes hlt (v := s.L k) (Int.le_refl _) (.inl rfl) (fun y hy hyn => by
      rw [hto] at hy
      simp only [Option.some.injEq] at hy
      omega)
    rw [updI_self] at h9
    exact h9
  exact st_out hst hes hlt rfl h1 hI hst.2.2.1 rfl

theorem st_ints (hst : St14 F w0 b G gv atv lev (.slice (some ⟨gg, 0, none⟩) G.length cg) s0 (pre ++ [k]) m s opv pav psv vs wr) {x : Nat} (hx : x < G.length) (hun : s.A x ≠ -1) :
    (0 ≤ s.L k ∧ s.L k ≤ s.A k ∧ s.A k < closedN) ∧ 0 ≤ s.A x ∧ s.A x ≤ closedN := by
  have hI := hst.2.1
  have hkp : k ∈ s.pa := by rw [hst.2.2.1]; simp
  have hko := hI.pth k hkp
  obtain ⟨h1, z, hz, hz2, _⟩ := hI.low k hko
  have h2 := (hI.open_lt hz).2.1
  refine ⟨⟨by omega, h1, (hI.open_lt hko).2.2.2⟩, ?_⟩
  rcases hI.val x hx with hv | hv | hv
  · exact absurd hv hun
  · rw [hv]; unfold closedN; omega
  · have := hI.open_lt hv
    exact ⟨this.2.1, Int.le_of_lt this.2.2.2⟩

theorem st_min (hst : St14 F w0 b G gv atv lev (.slice (some ⟨gg, 0, none⟩) G.length cg) s0 (pre ++ [k]) m s opv pav psv vs wr) {x : Nat} (hx : x < G.length) (hun : s.A x ≠ -1) : -9223372036854775808 ≤ min (s.L k) (s.A x) ∧ min (s.L k) (s.A x) ≤ 9223372036854775807 := by
  obtain ⟨⟨h1, h2, h3⟩, h4, h5⟩ := st_ints hst hx hun
  unfold closedN at h3 h5
  omega

theorem st_low {x : Nat} (hst : St14 F w0 b G gv atv lev (.slice (some ⟨gg, 0, none⟩) G.length cg) s0 (pre ++ [k]) m s opv pav psv vs wr) (hes : G[k]? = some es) (hto : es[s.g k]? = some (x : Int)) (hx : x < G.length) (hun : s.A x ≠ -1)
    (h1 : SM F w0 w1 b G.length { s with g := updN s.g k (s.g k + 1), L := updI s.L k (min (s.L k) (s.A x)) } gv opv atv lev (.slice (some ⟨gg, 0, none⟩) G.length cg) pav psv vs) : Dn F w0 b G gv atv lev (.slice (some ⟨gg, 0, none⟩) G.length cg) s0 (pre ++ [k]) m w1 ∧ memG G gg w1 < memG G gg wr := by
  have hlt := (List.getElem?_eq_some_iff.1 hto).1
  obtain ⟨⟨h2, h3, h4⟩, h5, h6⟩ := st_ints hst hx hun
  have hI := hst.2.1
  have hA : min (s.L k) (s.A x) = s.L k ∨ ∃ z, s.Open z ∧ s.A z = min (s.L k) (s.A x) ∧ Ed G k z := by
    by_cases hle : s.L k ≤ s.A x
    · left; omega
    · right
      rcases hI.val x hx with hv | hv | hv
      · exact absurd hv hun
      · omega
      · exact ⟨x, hv, by omega, es, hes, List.mem_of_getElem? hto, hx⟩
  have hF := hI.adv (node := k) (by rw [hst.2.2.1]; simp) hes hlt (v := min (s.L k) (s.A x)) (by omega) hA (fun y hy _ => by
    rw [hto] at hy
    simp only [Option.some.injEq] at hy
    obtain rfl : x = y := by omega
    exact ⟨hun, fun _ => by omega⟩)
  exact st_out hst hes hlt rfl h1 hF hst.2.2.1 rfl

theorem st_ent {x : Nat} (hst : St14 F w0 b G gv atv lev (.slice (some ⟨gg, 0, none⟩) G.length cg) s0 (pre ++ [k]) m s opv pav psv vs wr) (hes : G[k]? = some es) (hto : es[s.g k]? = some (x : Int)) (hx : x < G.length) (hun : s.A x = -1) :
    SInv G (Sr.enter { s with g := updN s.g k (s.g k + 1) } x) ∧ (Sr.enter { s with g := updN s.g k (s.g k + 1) } x).pa = (pre ++ [k]) ++ [x] ∧ measG G (Sr.enter { s with g := updN s.g k (s.g k + 1) } x) + 1 = measG G s ∧ (∀ y, s.A y ≠ -1 → (Sr.enter { s with g := updN s.g k (s.g k + 1) } x).A y ≠ -1) := by
  have hlt := (List.getElem?_eq_some_iff.1 hto).1
  have hI := hst.2.1
  have hkp : k ∈ s.pa := by rw [hst.2.2.1]; simp
  have hE : Ed G k x := ⟨es, hes, List.mem_of_getElem? hto, hx⟩
  have hris := hI.ris
  rw [hst.2.2.1, List.pairwise_append] at hris
  have h1 := hI.ent hun hx (fun p hp => by
    rw [hst.2.2.1] at hp
    rcases List.mem_append.1 hp with hp | hp
    · exact (hris.2.2 p hp k (by simp)).2.trans (.one hE)
    · simp at hp; subst hp; exact .one hE)
  have hkx : k ≠ x := fun e => by have := (hI.open_lt (hI.pth k hkp)).2.1; rw [e, hun] at this; omega
  have hlk := (hI.low k (hI.pth k hkp)).1
  have hak := (hI.open_lt (hI.pth k hkp)).2.2.1
  have h2 := h1.adv (node := k) (by show k ∈ s.pa ++ [x]; simp [hkp]) hes hlt (v := (s.enter x).L k) (Int.le_refl _) (.inl rfl) (fun y hy _ => by
    have hy : es[s.g k]? = some (y : Int) := hy
    rw [hto] at hy
    simp only [Option.some.injEq] at hy
    obtain rfl : x = y := by omega
    have e1 : (s.enter x).A x = s.op.length := updI_same _ _ _
    have e2 : (s.enter x).L k = s.L k := updI_ne _ _ hkx
    rw [e1, e2]
    exact ⟨by omega, fun _ => by omega⟩)
  rw [updI_self] at h2
  refine ⟨h2, by show s.pa ++ [x] = _; rw [hst.2.2.1], measG_adv hes hlt _ rfl, fun y hy => ?_⟩
  show updI s.A x s.op.length y ≠ -1
  unfold updI
  split
  · omega
  · exact hy

theorem st_back {x : Nat} (hst : St14 F w0 b G gv atv lev (.slice (some ⟨gg, 0, none⟩) G.length cg) s0 (pre ++ [k]) m s opv pav psv vs wr) (hes : G[k]? = some es) (hto : es[s.g k]? = some (x : Int)) (hx : x < G.length) (hun : s.A x = -1)
    (hD : Dn F w0 b G gv atv lev (.slice (some ⟨gg, 0, none⟩) G.length cg) (Sr.enter { s with g := updN s.g k (s.g k + 1) } x) (pre ++ [k]) (measG G (Sr.enter { s with g := updN s.g k (s.g k + 1) } x)) w1) : Dn F w0 b G gv atv lev (.slice (some ⟨gg, 0, none⟩) G.length cg) s0 (pre ++ [k]) m w1 ∧ memG G gg w1 < memG G gg wr := by
  obtain ⟨_, _, e3, e4⟩ := st_ent hst hes hto hx hun
  obtain ⟨s', o', p', q', v', h1, h2, h3, h4, h5⟩ := hD
  obtain ⟨h, _, _, hmet, hms⟩ := hst
  refine ⟨⟨s', o', p', q', v', h1, h2, h3, fun y hy => h4 y (e4 y (hmet y hy)), by omega⟩, ?_⟩
  rw [memG_eq h1, memG_eq h]
  omega

theorem st_call {x c : Nat} {bs bd : Nat} {opv2 pav2 : Value} (_hst : St14 (downC b bs bd) w0 b G gv atv lev (.slice (some ⟨gg, 0, none⟩) G.length cg) s0 (pre ++ [k]) m s opv pav psv vs wr)
    (hE : SInv G (Sr.enter { s with g := updN s.g k (s.g k + 1) } x) ∧ (Sr.enter { s with g := updN s.g k (s.g k + 1) } x).pa = (pre ++ [k]) ++ [x] ∧ measG G (Sr.enter { s with g := updN s.g k (s.g k + 1) } x) + 1 = measG G s ∧ (∀ y, s.A y ≠ -1 → (Sr.enter { s with g := updN s.g k (s.g k + 1) } x).A y ≠ -1))
    (ih : ∀ m', m' < m → ∀ {w : World} {s0 : Sr} {opv pav psv : Value} {vs : List Value} {pre : List Nat} {k : Nat}, SM (downC b bs bd) w0 w b G.length s0 gv opv atv lev (.slice (some ⟨gg, 0, none⟩) G.length cg) pav psv vs → SInv G s0 → s0.pa = pre ++ [k] → measG G s0 ≤ m' →
      Calls Try.prog 22 #[.int .i64 (k : Int), .int .i64 (pre.length : Int), .pointer (some ⟨bs, 0, none⟩), .pointer (some ⟨bd, 0, none⟩)] w fun e w' => e = .returned (.bool true) ∧ Dn (downC b bs bd) w0 b G gv atv lev (.slice (some ⟨gg, 0, none⟩) G.length cg) s0 pre m' w')
    (hc : c = pre.length) {w3 : World} (h3 : SM (downC b bs bd) w0 w3 b G.length (Sr.enter { s with g := updN s.g k (s.g k + 1) } x) gv opv2 atv lev (.slice (some ⟨gg, 0, none⟩) G.length cg) pav2 psv vs) :
    Calls Try.prog 22 #[.int .i64 (x : Int), .int .i64 ((c : Int) + 1), .pointer (some ⟨bs, 0, none⟩), .pointer (some ⟨bd, 0, none⟩)] w3 fun e w' => e = .returned (.bool true) ∧ Dn (downC b bs bd) w0 b G gv atv lev (.slice (some ⟨gg, 0, none⟩) G.length cg) (Sr.enter { s with g := updN s.g k (s.g k + 1) } x) (pre ++ [k]) (measG G (Sr.enter { s with g := updN s.g k (s.g k + 1) } x)) w' := by
  have hm := _hst.2.2.2.2
  have := ih (measG G (Sr.enter { s with g := updN s.g k (s.g k + 1) } x)) (by have := hE.2.2.1; omega) h3 hE.1 hE.2.1 (Nat.le_refl _)
  rw [List.length_append, List.length_singleton, ← hc] at this
  exact this

theorem st_cells {ge oe gcp c2 : Nat} {ae : Option Addr} {bs bd : Nat} (hst : St14 (downC b bs bd) w0 b G gv atv lev (.slice (some ⟨gg, 0, none⟩) G.length cg) s0 (pre ++ [k]) m s opv pav psv vs wr) (hk : k < G.length) (hes : G[k]? = some es) (hgv : gv = .slice (some ⟨ge, oe, none⟩) G.length gcp) (he : w0.cell? ⟨ge, oe + k, none⟩ = some (.slice ae es.length c2)) :
    wr.cell? ⟨bs, 0, none⟩ = some (.pointer (some ⟨b, 0, none⟩)) ∧ wr.cell? ⟨b, 0, none⟩ = some (.slice (some ⟨ge, oe, none⟩) G.length gcp) ∧ wr.cell? ⟨b, 4, none⟩ = some (.slice (some ⟨gg, 0, none⟩) G.length cg) ∧ wr.cell? ⟨gg, k, none⟩ = some (.int .i64 ((s.g k : Nat) : Int)) ∧ wr.frozen? ⟨gg, k, none⟩ = false ∧ wr.cell? ⟨ge, oe + k, none⟩ = some (.slice ae es.length c2) ∧ s.g k ≤ es.length := by
  obtain ⟨h, hI, _⟩ := hst
  obtain ⟨x0, x1, x2, x3, x4, x5, x6⟩ := h.cells
  obtain ⟨a1, a2⟩ := (h.own.own 3 _ _ rfl).at (rngN_get s.g hk)
  rw [hgv] at x0
  exact ⟨(downC_cells h.fx).1, x0, x4, a1, a2, (Kp.of_below h.bel).cell _ _ he, hI.gb k es hes⟩

theorem st_cells2 {ge oe gcp : Nat} {bs bd : Nat} (h : SM (downC b bs bd) w0 w1 b G.length s gv opv atv lev (.slice (some ⟨gg, 0, none⟩) G.length cg) pav psv vs) (hgv : gv = .slice (some ⟨ge, oe, none⟩) G.length gcp) :
    w1.cell? ⟨bs, 0, none⟩ = some (.pointer (some ⟨b, 0, none⟩)) ∧ w1.cell? ⟨bd, 0, none⟩ = some (downF bs bd) ∧ w1.cell? ⟨b, 0, none⟩ = some (.slice (some ⟨ge, oe, none⟩) G.length gcp) ∧ w1.cell? ⟨b, 2, none⟩ = some atv ∧ w1.cell? ⟨b, 3, none⟩ = some lev := by
  obtain ⟨x0, x1, x2, x3, x4, x5, x6⟩ := h.cells
  rw [hgv] at x0
  exact ⟨(downC_cells h.fx).1, (downC_cells h.fx).2, x0, x2, x3⟩

/-- Behind the counting up. -/
theorem st_up {W : World} {j : Nat} (hst : St14 F w0 b G gv atv lev (.slice (some ⟨gg, 0, none⟩) G.length cg) s0 (pre ++ [k]) m s opv pav psv vs wr) (hj : s.g k = j) (hjl : j < 9223372036854775807) (hW : W = (wr.setCell ⟨gg, k, none⟩ (.int .i64 ((j : Int) + 1))).drew.drew) : SM F w0 W b G.length { s with g := updN s.g k (s.g k + 1) } gv opv atv lev (.slice (some ⟨gg, 0, none⟩) G.length cg) pav psv vs := by
  have h1 := hst.1.setG (k := k) (v := j + 1) (by omega)
  rw [show ((j + 1 : Nat) : Int) = (j : Int) + 1 from by omega, updN_eq hj] at h1
  rw [hW]
  exact h1.later (Below.refl _ _).drew.drew

end

set_option maxRecDepth 100000 in
set_option maxHeartbeats 3200000 in
theorem down_any {w0 : World} {b bs bd : Nat} {G : List (List Int)} {gv atv lev gov : Value} (hG : Rs w0 gv G) (hn : G.length ≤ 4096) : ∀ (m : Nat) {w : World} {s0 : Sr} {opv pav psv : Value} {vs : List Value} {pre : List Nat} {k : Nat}, SM (downC b bs bd) w0 w b G.length s0 gv opv atv lev gov pav psv vs → SInv G s0 → s0.pa = pre ++ [k] → measG G s0 ≤ m →
    Calls Try.prog 22 #[.int .i64 (k : Int), .int .i64 (pre.length : Int), .pointer (some ⟨bs, 0, none⟩), .pointer (some ⟨bd, 0, none⟩)] w fun e w' => e = .returned (.bool true) ∧ Dn (downC b bs bd) w0 b G gv atv lev gov s0 pre m w' := by
  intro m
  induction m using Nat.strongRecOn with
  | _ m ih =>
  intro w s0 opv pav psv vs pre k h hI hp hm
  have hk := (hI.open_lt (hI.pth k (by rw [hp]; simp))).1
  have hpl := hI.paLen
  have hpl2 : pre.length + 1 ≤ G.length := by rw [hp] at hpl; simpa using hpl
  have hc : ((pre.length : Int) == 4096) = false := by simp; omega
  obtain ⟨c, hcl⟩ : ∃ c, c = pre.length := ⟨_, rfl⟩
  rw [← hcl] at hc hpl2 ⊢
  obtain ⟨-, ⟨ga, ca, rfl, ha1, ha2⟩, ⟨gl, cl, rfl, hl1, hl2⟩, ⟨gg, cg, rfl, hg1, hg2⟩, -⟩ := h.forms (by omega)
  unfold maxLen at ha2 hl2 hg2
  obtain ⟨gao, gcp, hgv, hgc1, hgc2, _⟩ := Row.flat hG
  have hG2 := hG
  rw [hgv] at hG2
  unfold maxLen at hgc2
  obtain ⟨ge, oe, ae, es, ce, rfl, hes, e1, e2, e3⟩ := hG2.at hk
  have HIH := hid @ih
  have HCl := hid hcl
  have HEs := hid hes
  have HEi := hid e2
  have HE1 := hid e1
  have HGv := hid hgv
  have HG := hid hG
  have HD : Hid (Dn (downC b bs bd) w0 b G gv (.slice (some ⟨ga, 0, none⟩) G.length ca) (.slice (some ⟨gl, 0, none⟩) G.length cl) (.slice (some ⟨gg, 0, none⟩) G.length cg) s0 (pre ++ [k]) m w) := ⟨s0, opv, pav, psv, vs, h, hI, hp, fun _ h => h, hm⟩
  clear h hI hp hm ih hG hcl hes hpl hG2 e2 hgv
  go_enter Try.func22, Try.ntmps22
  go_wp2
  go_loopw [7] (fun _ wr => Dn (downC b bs bd) w0 b G gv (.slice (some ⟨ga, 0, none⟩) G.length ca) (.slice (some ⟨gl, 0, none⟩) G.length cl) (.slice (some ⟨gg, 0, none⟩) G.length cg) s0 (pre ++ [k]) m wr) (fun _ wr => memG G gg wr)
  case atStart => exact HD.out
  case round =>
    obtain ⟨s, opv, pav, psv, vs, hst⟩ := hrel
    have HSt : Hid (St14 (downC b bs bd) w0 b G gv (.slice (some ⟨ga, 0, none⟩) G.length ca) (.slice (some ⟨gl, 0, none⟩) G.length cl) (.slice (some ⟨gg, 0, none⟩) G.length cg) s0 (pre ++ [k]) m s opv pav psv vs wr) := hst
    clear hst e1
    obtain ⟨y0, x0, x4, a1, a2, e1, hgb⟩ := st_cells HSt.out hk HEs.out HGv.out HE1.out
    obtain ⟨j, hj⟩ : ∃ j, s.g k = j := ⟨_, rfl⟩
    rw [hj] at a1 hgb
    have HJ := hid hj
    clear hj
    by_cases hlt : j < es.length
    · obtain ⟨ge2, oe2, tx, rfl, hto, t1, t2, t3⟩ := HEi.out.at hlt
      have HTo : Hid (es[s.g k]? = some tx) := by show _ = _; rw [HJ.out]; exact hto
      have hjl : j < 9223372036854775807 := by omega
      have hd : decide ((j : Int) < (es.length : Int)) = true := by simpa using hlt
      have hw1 : IntKind.i64.wrap ((j : Int) + 1) = (j : Int) + 1 := IntWalk.i64_in _ ⟨by omega, by omega⟩
      have t1' := (Kp.of_below HSt.out.1.bel).cell _ _ t1
      clear hto t1
      go_wp2
      go_region
      go_wp2
      go_region
      go_upto_region 9 with fail
      obtain ⟨W, hW⟩ : ∃ X, X = (wr.setCell ⟨gg, k, none⟩ (.int .i64 ((j : Int) + 1))).drew.drew := ⟨_, rfl⟩
      have H1 := hid (st_up HSt.out HJ.out hjl hW)
      rw [← hW]
      clear hW y0 x0 x4 a1 a2 e1 t1' hd hw1 hlt hgb
      obtain ⟨y0, y1, x0, x2, x3⟩ := st_cells2 H1.out HGv.out
      by_cases hneg : tx < 0
      · as_aux_lemma =>
          have hd0 : decide (tx < 0) = true := by simpa using hneg
          have HDn := hid (st_pass HSt.out HEs.out HTo.out (.inl hneg) H1.out)
          clear hneg
          go_wp2
          exact HDn.out
      · as_aux_lemma =>
          obtain ⟨x, rfl⟩ : ∃ x : Nat, tx = (x : Int) := ⟨tx.toNat, by omega⟩
          have hd0 : decide ((x : Int) < 0) = false := by simp
          clear hneg
          by_cases hxn : G.length ≤ x
          · as_aux_lemma =>
              have hd1 : decide (G.length ≤ x) = true := by simpa using hxn
              have HDn := hid (st_pass HSt.out HEs.out HTo.out (.inr (by omega)) H1.out)
              go_wp2
              exact HDn.out
          · as_aux_lemma =>
              have hxl : x < G.length := by omega
              have hd1 : decide (G.length ≤ x) = false := by simp; omega
              obtain ⟨a1, _⟩ := (H1.out.own.own 1 _ _ rfl).at (rngI_get s.A hxl)
              by_cases hun : s.A x = -1
              · as_aux_lemma =>
                  have hd2 : (s.A x != -1) = false := by simp [hun]
                  have HE := hid (st_ent HSt.out HEs.out HTo.out hxl hun)
                  have HUn := hid hun
                  have HEn := hid (enter_any H1.out hxl (by show s.op.length ≤ _; have := HSt.out.2.1.opLen; omega) (by show s.pa.length ≤ _; have := HSt.out.2.1.paLen; omega) (by omega))
                  clear hun
                  go_wp2_with fail
                  refine HEn.out.mono ?_
                  rintro e w3 ⟨rfl, opv', pav', h3⟩
                  have H3 := hid h3
                  have HCa := hid (st_call HSt.out HE.out HIH.out HCl.out h3)
                  obtain ⟨z0, z1⟩ := downC_cells h3.fx
                  have hcw : IntKind.i64.wrap ((c : Int) + 1) = (c : Int) + 1 := IntWalk.i64_in _ ⟨by omega, by omega⟩
                  clear h3 y0 y1 x0 x2 x3 a1 HEn
                  go_wp2_with fail
                  refine HCa.out.mono ?_
                  rintro e w4 ⟨rfl, hD⟩
                  have HDn := hid (st_back HSt.out HEs.out HTo.out hxl HUn.out hD)
                  clear hD HCa z0 z1
                  go_wp2
                  exact HDn.out
              · as_aux_lemma =>
                  have hd2 : (s.A x != -1) = true := by simpa using hun
                  obtain ⟨l1, l2⟩ := (H1.out.own.own 2 _ _ rfl).at (rngI_get s.L hk)
                  obtain ⟨M, hM⟩ : ∃ M, M = min (s.L k) (s.A x) := ⟨_, rfl⟩
                  have hs2 := H1.out.setL (k := k) (v := min (s.L k) (s.A x)) (st_min HSt.out hxl hun)
                  have HDn := hid (st_low HSt.out HEs.out HTo.out hxl hun (hs2.later (Below.refl _ _).drew))
                  clear hs2 hun
                  go_wp2
                  go_region
                  go_wp2
                  exact HDn.out
    · have hje : j = es.length := by omega
      have hd : decide ((j : Int) < (es.length : Int)) = false := by simp; omega
      have HLe := hid (fun W (hW : Below wr.heap.size wr W) => leave_any (HSt.out.1.later hW) HG.out (by omega) HSt.out.2.1 HSt.out.2.2.1 (fun es' he => by rw [HEs.out] at he; cases he; rw [HJ.out, hje]))
      clear hje
      go_wp2
      go_region
      go_wp2_with fail
      refine (HLe.out _ (Below.refl _ _).drew).mono ?_
      rintro e w3 ⟨rfl, s', opv', pav', psv', vs', h1, h2, h3, h4, h5⟩
      have HF : Hid (Dn (downC b bs bd) w0 b G gv (.slice (some ⟨ga, 0, none⟩) G.length ca) (.slice (some ⟨gl, 0, none⟩) G.length cl) (.slice (some ⟨gg, 0, none⟩) G.length cg) s0 pre m w3) := ⟨s', opv', pav', psv', vs', h1, h2, h3, fun x hx => h5 x (HSt.out.2.2.2.1 x hx), by have := HSt.out.2.2.2.2; unfold measG at this ⊢; rw [h4]; exact this⟩
      clear h1 h2 h3 h4 h5 HLe
      go_wp2
      go_ret
      exact ⟨rfl, HF.out⟩

end Go.Proofs.Ytmokokhhheonoaa

/- What the law file's helpers do: same, lent, kept, spoil, three, which. -/
namespace Go.Proofs.Ytmokokhhheonoaa
open Go.RowKit Go.Maps Go.BigFrame

theorem I64_one (xs : List Int) : ∀ u ∈ xs.map I64, u.oneCell' = true := fun u hu => by obtain ⟨x, _, rfl⟩ := List.mem_map.1 hu; rfl

theorem run_copy_ints {w : World} {base g n cap cap' : Nat} {ao : Option Addr} {zs xs : List Int} (ho : OwI w base (.slice (some ⟨g, 0, none⟩) n cap) zs) (hn : n = zs.length)
    (hs : Is w (.slice ao xs.length cap') xs) (hle : xs.length ≤ n) :
    ∃ w', (Builtin.copy_ #[26, 26] 3 #[.slice (some ⟨g, 0, none⟩) n cap, .slice ao xs.length cap']).run Try.prog w = .ok (goInt xs.length) w' ∧
      OwI w' base (.slice (some ⟨g, 0, none⟩) n cap) (xs ++ zs.drop xs.length) ∧ w.grownBy w' (some g) := by
  subst hn
  have hsz : (Try.prog.info? 3).map (·.size) = some 1 := by kernel_rfl
  by_cases h0 : xs.length = 0
  · obtain rfl : xs = [] := List.eq_nil_of_length_eq_zero h0
    have := run_copy_none (P := Try.prog) w 26 26 3 3 (some ⟨g, 0, none⟩) ao zs.length cap 0 cap' under_ints hsz (by simp)
    exact ⟨w, this, by simpa using ho, World.grownBy.refl _ _⟩
  · have hZ := hs.range
    obtain ⟨ao', c', hv, hc, hm, hx⟩ := hs
    simp only [Value.slice.injEq] at hv
    obtain ⟨rfl, _, rfl⟩ := hv
    obtain ⟨g', off, rfl, hg, hx⟩ := hx (by omega)
    rcases ho.2.2 with ⟨hv, _⟩ | ⟨g2, cap2, cur, hv, hb, hg2, hc2, hm2, hs2, ht2⟩
    · simp at hv
    · simp only [Value.slice.injEq, Option.some.injEq, Addr.mk.injEq, and_true, true_and] at hv
      obtain ⟨rfl, rfl⟩ := hv
      have hmin : xs.length = Nat.min xs.length zs.length := (Nat.min_eq_left hle).symm
      have hcur : zs.length ≤ cur.size := by omega
      have := run_copy_row (P := Try.prog) w 26 26 3 3 g 0 zs.length cap ⟨g', off, none⟩ xs.length cap' cur 3 (xs.map I64) under_ints hsz hg2
        (by simpa using hmin) (by
          intro j v hj
          simp only [List.getElem?_map, Option.map_eq_some_iff] at hj
          obtain ⟨x, hx1, rfl⟩ := hj
          rw [Addr.add_lit]
          have := (hx j x hx1).2.2
          rw [Nat.mul_one] at this
          exact this) (by simp; omega) (I64_one xs)
      refine ⟨_, by simpa using this, ⟨?_, ?_, .inr ⟨g, cap, _, by rw [List.length_append, List.length_drop, show xs.length + (zs.length - xs.length) = zs.length by omega], hb, setRow_heap w g cur _ 3 _ hg2, ?_, hm2, ?_, ?_⟩⟩, ?_⟩
      · intro k y hk
        by_cases hkl : k < xs.length
        · rw [List.getElem?_append_left hkl] at hk
          exact hZ k y hk
        · rw [List.getElem?_append_right (by omega), List.getElem?_drop] at hk
          exact ho.1 _ y hk
      · simp
      · simp; omega
      · simp; omega
      · have hl : (xs.map I64).length = xs.length := by simp
        rw [List.length_append, List.length_drop, show xs.length + (zs.length - xs.length) = zs.length by omega]
        simp only [List.map_append, List.map_drop, ← ht2, List.drop_take, Nat.mul_one]
        rw [List.take_append, hl, List.take_of_length_le (by simp; omega)]
      · exact ⟨rfl, rfl, rfl, by simp [World.setRow], fun k _ hk => setRow_other w g k _ (fun e => hk (by simp [e]))⟩

end Go.Proofs.Ytmokokhhheonoaa

/- slices.Repeat at numbers, and newSearch of package graph, walked. -/
namespace Go.Proofs
open Go.Shelf Go.RowKit Go.Lib

def Try.mulLay_ren : Go.Shelf.Ren := ⟨fun | 212 => 28 | 263 => 41 | 264 => 42 | n => n, fun | 46 => 45 | 51 => 58 | 146 => 62 | 53 => 60 | 148 => 64 | n => n, fun | n => n⟩
theorem Try.mulLay : Go.Proofs.Lays.n212 Try.prog Try.mulLay_ren := {
  mixed := by kernel_rfl
  f212 := Try.func28.trans (congrArg some (by kernel_rfl))
  f263 := Try.func41.trans (congrArg some (by kernel_rfl))
  f264 := Try.func42.trans (congrArg some (by kernel_rfl))
  t46 := Try.underlying45
  a46 := Try.isAgg45
  z46 := Try.sizeOf45
  v46 := Try.zeroValue45
  t51 := Try.underlying58
  a51 := Try.isAgg58
  z51 := Try.sizeOf58
  v51 := Try.zeroValue58
  t53 := Try.underlying60
  a53 := Try.isAgg60
  z53 := Try.sizeOf60
  v53 := Try.zeroValue60
  t146 := Try.underlying62
  a146 := Try.isAgg62
  z146 := Try.sizeOf62
  v146 := Try.zeroValue62
  t148 := Try.underlying64
  a148 := Try.isAgg64
  z148 := Try.sizeOf64
  v148 := Try.zeroValue64 }

end Go.Proofs

namespace Go.Proofs.Ytmokokhhheonoaa
open Go.RowKit Go.Maps Go.BigFrame Go.Shelf

def repL (n k : Nat) (x : Int) : List Int := List.replicate k x ++ List.replicate (n - k) 0

theorem repL_len {n k : Nat} (x : Int) (h : k ≤ n) : (repL n k x).length = n := by simp [repL]; omega

theorem rep_mul (n : Nat) (w : World) (hn : n ≤ 1048576) :
    Calls Try.prog 28 #[.int .u64 1, .int .u64 (n : Int)] w fun e w' => e = .returned (.tuple #[.int .u64 0, .int .u64 (n : Int)]) ∧ w' = w := by
  have h := Any.bits_Mul Try.mulLay 1 n (by decide) (by omega) w
  rw [Nat.one_mul, Nat.div_eq_of_lt (by omega), Nat.mod_eq_of_lt (by omega)] at h
  exact h

theorem run_copy_self {w : World} {base g n k : Nat} {x : Int} (ho : OwI w base (.slice (some ⟨g, 0, none⟩) n n) (repL n k x)) {m : Nat} (hm : m = min k (n - k)) (hk : k < n) :
    ∃ w', (Builtin.copy_ #[26, 26] 3 #[.slice (some ⟨g, k, none⟩) (n - k) (n - k), .slice (some ⟨g, 0, none⟩) k n]).run Try.prog w = .ok (goInt (m : Int)) w' ∧
      OwI w' base (.slice (some ⟨g, 0, none⟩) n n) (repL n (k + m) x) ∧ w.grownBy w' (some g) := by
  have hsz : (Try.prog.info? 3).map (·.size) = some 1 := by kernel_rfl
  have hl := repL_len x (Nat.le_of_lt hk)
  have ho' := ho
  rcases ho.2.2 with ⟨hv, _⟩ | ⟨g2, cap2, cur, hv, hb, hg2, hc2, hm2, hs2, ht2⟩
  · simp at hv
  · simp only [Value.slice.injEq, Option.some.injEq, Addr.mk.injEq, and_true] at hv
    obtain ⟨rfl, _, rfl⟩ := hv
    have hcur : cur.toList = (repL n k x).map I64 := by
      rw [← ht2, hl, Nat.mul_one, List.take_of_length_le (by rw [Array.length_toList]; omega)]
    have hcl : cur.size = n := by rw [← Array.length_toList, hcur, List.length_map, hl]
    have hrun := run_copy_row (P := Try.prog) w 26 26 3 3 g k (n - k) (n - k) ⟨g, 0, none⟩ k n cur 3 (List.replicate m (I64 x)) under_ints hsz hg2
      (by rw [List.length_replicate]; exact hm) (by
        intro j v hj
        rw [List.getElem?_replicate] at hj
        split at hj
        · cases hj
          rw [Addr.add_lit, Nat.zero_add]
          exact (ho'.at (k := j) (x := x) (by unfold repL; rw [List.getElem?_append_left (by rw [List.length_replicate]; omega), List.getElem?_replicate, if_pos (by omega)])).1
        · cases hj) (by rw [List.length_replicate]; omega) (fun v hv => by rw [(List.mem_replicate.1 hv).2]; rfl)
    rw [List.length_replicate] at hrun
    have harr : (cur.toList.take k ++ List.replicate m (I64 x) ++ cur.toList.drop (k + m)) = (repL n (k + m) x).map I64 := by
      rw [hcur]
      unfold repL
      simp only [List.map_append, List.map_replicate]
      rw [List.take_append_of_le_length (by simp), List.take_of_length_le (by simp), List.drop_append, List.drop_eq_nil_of_le (by simp), List.nil_append, List.length_replicate, List.drop_replicate, List.replicate_append_replicate]
      congr 2
      omega
    rw [harr] at hrun
    refine ⟨_, hrun, ⟨fun j y hj => ?_, ?_, .inr ⟨g, n, _, by rw [repL_len x (by omega)], hb, setRow_heap w g cur _ 3 _ hg2, by rw [repL_len x (by omega)]; omega, hm2, by simp [repL_len x (show k + m ≤ n by omega)], ?_⟩⟩, ?_⟩
    · unfold repL at hj
      by_cases hjl : j < k + m
      · rw [List.getElem?_append_left (by simp; omega), List.getElem?_replicate, if_pos hjl] at hj
        cases hj
        exact ho'.1 0 x (by unfold repL; rw [List.getElem?_append_left (by simp; omega), List.getElem?_replicate, if_pos (by omega)])
      · rw [List.getElem?_append_right (by simp; omega), List.getElem?_replicate] at hj
        split at hj
        · cases hj; omega
        · cases hj
    · rw [List.length_map, Nat.mul_one]
    · rw [Nat.mul_one, repL_len x (show k + m ≤ n by omega)]
      rw [List.take_of_length_le (by simp [repL_len x (show k + m ≤ n by omega)])]
    · exact ⟨rfl, rfl, rfl, by simp [World.setRow], fun j hj hne => setRow_other w g j _ (fun e => hne (by rw [e]))⟩

set_option maxRecDepth 100000 in
set_option maxHeartbeats 1600000 in
theorem repeat_any {w : World} {gx n : Nat} {x : Int} (hx : Is w (.slice (some ⟨gx, 0, none⟩) 1 1) [x]) (hn : n ≤ 1048576) :
    Calls Try.prog 21 #[.slice (some ⟨gx, 0, none⟩) 1 1, .int .i64 (n : Int)] w fun e w' => ∃ v', e = .returned v' ∧ OwI w' w.heap.size v' (List.replicate n x) ∧ Below w.heap.size w w' := by
  obtain ⟨i0, hi, hz0, hz1, hz2⟩ := info_parts info_int
  have HX := hid hx
  have hc1 : IntKind.u64.wrap (n : Int) = (n : Int) := IntWalk.u64_in _ ⟨by omega, by omega⟩
  have hc2 : IntKind.i64.wrap (n : Int) = (n : Int) := IntWalk.i64_in _ ⟨by omega, by omega⟩
  have HMul := hid (fun w => rep_mul n w hn)
  clear hx
  go_enter Try.func21, Try.ntmps21
  go_wp2_with (first
    | (go_at_call 28; refine (HMul.out _).mono ?_; rintro e w9 ⟨rfl, hw9⟩; have hw8 := hw9.symm; subst hw8; clear hw9)
    | (at_make; refine wpList_make_full _ rfl _ _ 26 rfl w.heap.size 3 i0 (.int .i64 0) 1 under_ints hi hz0 hz1 .i64 .i64 _ _ n rfl rfl (by omega) (by omega) (by rw [hz2]; omega) (by unfold maxLen; omega) (Nat.le_refl _) ?_; intro w0 hown0 hgrow0))
  have hb0 : Below w.heap.size w w0 := (Below.refl _ _).grown hgrow0 (Nat.le_refl _) (by intro k hk; cases hk)
  have ho0 := OwI.made hown0
  clear hown0 hgrow0 hi hz0 hz1 hz2
  obtain ⟨g0, hg0⟩ : ∃ X, X = w.heap.size := ⟨_, rfl⟩
  by_cases h0 : n = 0
  · subst h0
    have hrun := run_copy_none (P := Try.prog) w0 26 26 3 3 (some ⟨w.heap.size, 0, none⟩) (some ⟨gx, 0, none⟩) 0 0 1 1 under_ints (by kernel_rfl) (by simp)
    have HO := hid ho0
    have HB := hid hb0
    clear ho0 hb0
    rw [hrun]
    go_wp2
    go_loopw [8] (fun iv wr => iv = .int .i64 0 ∧ wr = w0) (fun _ _ => 0)
    case atStart => exact ⟨rfl, rfl⟩
    case round =>
      obtain ⟨rfl, hw⟩ := hrel
      subst hw
      go_wp2
      go_ret
      exact ⟨_, rfl, HO.out, HB.out⟩
  · obtain ⟨w1, hrun, ho1, hg1⟩ := run_copy_ints (xs := [x]) ho0 (by simp) (HX.out.kp (Kp.of_below hb0)) (by show 1 ≤ n; omega)
    have hb1 : Below w.heap.size w w1 := hb0.grown hg1 hb0.size (by intro k hk; cases hk; exact Nat.le_refl _)
    have ho2 : OwI w1 w.heap.size (.slice (some ⟨w.heap.size, 0, none⟩) n n) (repL n 1 x) := by
      have : [x] ++ (List.replicate n (0 : Int)).drop [x].length = repL n 1 x := by unfold repL; simp
      rw [← this]
      exact ho1
    have HO := hid ho2
    have HB := hid hb1
    have hrun1 : (Builtin.copy_ #[26, 26] 3 #[.slice (some ⟨w.heap.size, 0, none⟩) n n, .slice (some ⟨gx, 0, none⟩) 1 1]).run Try.prog w0 = .ok (goInt 1) w1 := hrun
    rw [← hg0] at hrun1 HO ⊢
    clear ho0 hb0 hrun ho1 hg1 hb1 ho2
    have HG0 := hid hg0
    clear hg0
    rw [hrun1]
    clear hrun1
    go_wp2
    go_loopw [8] (fun iv wr => ∃ k : Nat, 1 ≤ k ∧ k ≤ n ∧ iv = .int .i64 k ∧ OwI wr g0 (.slice (some ⟨g0, 0, none⟩) n n) (repL n k x) ∧ Below w.heap.size w wr) (fun iv _ => n - (intOf iv).toNat)
    case atStart => exact ⟨1, Nat.le_refl _, by omega, rfl, HO.out, HB.out⟩
    case round =>
      obtain ⟨k, hk1, hk2, rfl, ho, hb⟩ := hrel
      have HOk := hid ho
      have HBk := hid hb
      clear ho hb HO HB
      by_cases hlt : k < n
      · obtain ⟨m, hm⟩ : ∃ m, m = min k (n - k) := ⟨_, rfl⟩
        obtain ⟨w2, hrun, ho2, hg2⟩ := run_copy_self (w := wr.drew) (HOk.out.later (Below.refl _ _).drew) hm hlt
        have HO2 := hid ho2
        have HB2 := hid ((HBk.out.drew).grown hg2 HBk.out.size (by intro j hj; cases hj; rw [HG0.out]; exact Nat.le_refl _))
        have hkm : k + m ≤ n := by omega
        have hm1 : 1 ≤ m := by omega
        have hwm : IntKind.i64.wrap ((k : Int) + (m : Int)) = ((k + m : Nat) : Int) := by rw [IntWalk.i64_in _ ⟨by omega, by omega⟩]; omega
        have hne : ¬ n = k := by omega
        clear hm ho2 hg2
        go_wp2
        go_region
        go_wp2
        go_roundw
        case rel => exact ⟨k + m, by omega, hkm, by go_num, HO2.out, HB2.out⟩
        case measure => simp only [intOf]; omega
      · obtain rfl : k = n := by omega
        have HF : Hid (OwI wr w.heap.size (.slice (some ⟨g0, 0, none⟩) k k) (List.replicate k x)) := by
          have h9 := HOk.out
          rw [HG0.out] at h9 ⊢
          unfold repL at h9
          rw [Nat.sub_self, List.replicate_zero, List.append_nil] at h9
          exact h9
        go_wp2
        go_ret
        exact ⟨_, rfl, HF.out, HBk.out⟩

end Go.Proofs.Ytmokokhhheonoaa
