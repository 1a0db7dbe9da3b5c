/- Texts of the proof, one behind the other. -/
import Derived.Test.YtcoaabgaolblfaaDoorOwn13
/- The document's look at two places of its table of layer 11. -/
namespace Go.Proofs.YtcoaabgaolblfaaDoor
open Go.RowKit Go.Maps Go.BigFrame

theorem Rc.drewN {w : World} {v : Value} {ps : List (Int × Int)} {n : Nat} (h : Rc w v ps) : Rc (w.drewN n) v ps := by
  obtain ⟨base, gp, ro, rc, rb, N, U, rfl, hR, hu⟩ := h
  exact ⟨base, gp, ro, rc, rb, N, U, rfl, ⟨hR.ptr, hR.lo, hR.own, hR.rows, hR.low, hR.inj⟩, hu⟩

theorem refAboveP_at (ps : List (Int × Int)) (v : Value) (f g : Int) (X : Bool) (w : World) (hX : abB ps f g = X) (h : Rc w v ps) :
    Calls Tryd.prog 37 #[v, .int .i64 f, .int .i64 g] w fun e w' => e = .returned (.bool X) ∧ w' = w := by
  subst hX
  exact refAboveP_any ps v f g w h

set_option maxRecDepth 100000 in
set_option maxHeartbeats 6400000 in
theorem greater11_any (gx : Nat) (pv v1 v2 : Value) (n m : Nat) (sm mo : Nat → Nat → Bool) (gs gm cs cm : Nat) (rs rm : Nat → Nat) (i j : Nat) (av bv : Value) (a b s t : List Int) (c d : Int) (sig : List Sy) (ps : List (Int × Int)) (w : World) (hx : TbR w gx pv v1 v2 n m sm mo gs gm cs cm rs rm) (hp : Rc w pv ps) (h1 : Is w v1 s) (h2 : Is w v2 t) (hn : s.length = n) (hm : t.length = m) (ha : Is w av a) (hb : Is w bv b) (hc : s[i]? = some c) (hd : t[j]? = some d) (hT : TabO sig (abB ps) s t i j a b c d)
    (hs1 : ∀ p q : Nat, i < p → p < n → q < m → (sm p q = true ↔ tA sig s p = tA sig t q)) (hm1 : ∀ p q : Nat, i < p → p < n → q < m → (mo p q = true ↔ LG (abB ps) (tA sig s p) (tA sig t q))) (hm2 : ∀ q : Nat, j < q → q < m → (mo i q = true ↔ LG (abB ps) (tA sig s i) (tA sig t q))) :
    Calls Tryd.prog 22 #[.pointer (some ⟨gx, 0, none⟩), .int .i64 i, .int .i64 j, av, bv] w fun e w' => ∃ r : Bool, e = .returned (.bool r) ∧ (r = true ↔ LG (abB ps) (tA sig s i) (tA sig t j)) ∧ ∃ q, w' = w.drewN q := by
  have hi : i < n := by rw [← hn]; exact (List.getElem?_eq_some_iff.1 hc).1
  have hj : j < m := by rw [← hm]; exact (List.getElem?_eq_some_iff.1 hd).1
  have hall := allP11_iff (mo := mo) (i := i) (m := m) (l := b) (fun k p hk => by obtain ⟨P, e, _, h9⟩ := hT.kb k p hk; exact ⟨P, e, by omega⟩)
  have hall2 : allP11 mo i b = true ↔ ∀ (k q : Nat), b[k]? = some (q : Int) → LG (abB ps) (tA sig s i) (tA sig t q) := by
    rw [hall]
    refine forall_congr' fun k => forall_congr' fun q => forall_congr' fun hk => ?_
    obtain ⟨P, e, h8, h9⟩ := hT.kb k _ hk
    obtain rfl : q = P := by omega
    exact hm2 q h8 (by omega)
  have hA : ∀ w' : World, Kp w w' → Calls Tryd.prog 38 #[.pointer (some ⟨gx, 0, none⟩), .int .i64 i, bv] w' fun e w2 => e = .returned (.bool (allP11 mo i b)) ∧ ∃ n, w2 = w'.drewN n := fun w' hk =>
    all11_any gx pv v1 v2 n m sm mo gs gm cs cm rs rm i bv b w' (hx.kp hk) hi (hb.imp hk.size (EI.kp hk)) (fun k p hk => by obtain ⟨P, e, _, h9⟩ := hT.kb k p hk; exact ⟨P, e, by omega⟩)
  have HA := hid hA
  have HALL := hid hall2
  have HTb := hid hT
  have HX := hid hx
  have HP := hid hp
  have HS := hid hs1
  have HM := hid hm1
  obtain ⟨so, ca1, rfl, hso, hcs, hs0⟩ := h1.flatI
  obtain ⟨tto, ca2, rfl, hto, hct, ht0⟩ := h2.flatI
  obtain ⟨g1, o1, c', rfl, hc1, hc3⟩ := hs0 i (by omega)
  obtain ⟨g2, o2, d', rfl, hd1, hd3⟩ := ht0 j (by omega)
  obtain rfl : c = c' := by rw [hc] at hc1; simpa using hc1
  obtain rfl : d = d' := by rw [hd] at hd1; simpa using hd1
  obtain ⟨ao, ca, rfl, hao, hca, hcl⟩ := ha.flatI
  obtain ⟨bo, cb, rfl, hbo, hcb, hcl'⟩ := hb.flatI
  have HCA := hid hcl
  have HCB := hid hcl'
  have f1 := hx.c1
  have f2 := hx.c2
  have f3 := hx.c3
  have f4 := hx.c4
  have f5 := hx.c5
  have hil : i < s.length := by omega
  have hjl : j < t.length := by omega
  have HN := hid hn
  have HM0 := hid hm
  clear hall hall2 hA hT hx hp hs1 hm1 hm2 h1 h2 ha hb hc hd hs0 ht0 hc1 hd1 hcl hcl' hn hm
  by_cases hc0 : c < 0
  · go_enter Tryd.func22, Tryd.ntmps22
    go_wp2
    go_ret
    exact ⟨false, rfl, iff_of_false (by decide) (HTb.out.low hc0), 0, rfl⟩
  have HC0 : Hid (¬ c < 0) := hid hc0
  go_enter Tryd.func22, Tryd.ntmps22
  go_wp2
  go_loopw [11] (fun x wr => ∃ k : Nat, k ≤ a.length ∧ x = .int .i64 k ∧ (∀ k' p : Nat, k' < k → a[k']? = some (p : Int) → ¬ (tA sig s p = tA sig t j ∨ LG (abB ps) (tA sig s p) (tA sig t j))) ∧ ∃ q, wr = w.drewN q) (fun x _ => a.length - (intOf x).toNat)
  case atStart => exact ⟨0, Nat.zero_le _, rfl, fun k' p h => absurd h (by omega), 0, rfl⟩
  case round =>
    obtain ⟨k, hk, rfl, ht, q, rfl⟩ := hrel
    have HT := hid ht
    clear ht
    by_cases hlt : k < a.length
    · obtain ⟨g, off, x, rfl, hx1, hx3⟩ := HCA.out k hlt
      obtain ⟨P, rfl, hP1, hP2⟩ := HTb.out.ka k x hx1
      have hPn : P < n := by rw [← HN.out]; exact hP2
      have r4 := HX.out.hs P hPn
      have r5 := HX.out.hm P hPn
      have b4 := HX.out.bs P j hPn hj
      have b5 := HX.out.bm P j hPn hj
      have K1 := hid (HS.out P j hP1 hPn hj)
      have K2 := hid (HM.out P j hP1 hPn hj)
      have HX1 := hid hx1
      clear hx1
      cases hb1 : sm P j with
      | true =>
        rw [hb1] at b4
        have HB := hid hb1
        clear hb1
        go_wp2
        go_quiet (fail)
        go_wp2
        go_ret
        exact ⟨true, rfl, iff_of_true rfl (HTb.out.part k P HX1.out (.inl (K1.out.1 HB.out))), by (try simp only [World.drewN_drewN]); exact ⟨_, rfl⟩⟩
      | false =>
        rw [hb1] at b4
        have HB := hid hb1
        clear hb1
        cases hb2 : mo P j with
        | true =>
          rw [hb2] at b5
          have HB2 := hid hb2
          clear hb2
          go_wp2
          go_quiet (fail)
          go_wp2
          go_ret
          exact ⟨true, rfl, iff_of_true rfl (HTb.out.part k P HX1.out (.inr (K2.out.1 HB2.out))), by (try simp only [World.drewN_drewN]); exact ⟨_, rfl⟩⟩
        | false =>
          rw [hb2] at b5
          have HB2 := hid hb2
          clear hb2
          go_wp2
          go_quiet (fail)
          go_wp2
          go_roundw
          case rel =>
            refine ⟨k + 1, by omega, by go_num, fun k' p h9 hk' => ?_, _, rfl⟩
            by_cases e : k' = k
            · subst e
              have e2 := HX1.out.symm.trans hk'
              simp only [Option.some.injEq, Int.natCast_inj] at e2
              subst e2
              rintro (h8 | h8)
              · have := K1.out.2 h8
                rw [HB.out] at this
                exact absurd this (by decide)
              · have := K2.out.2 h8
                rw [HB2.out] at this
                exact absurd this (by decide)
            · exact HT.out k' p (by omega) hk'
          case measure => simp [intOf]; omega
    · have hk' : k = a.length := by omega
      have HNO : Hid (∀ k' p : Nat, a[k']? = some (p : Int) → ¬ (tA sig s p = tA sig t j ∨ LG (abB ps) (tA sig s p) (tA sig t j))) := hid (fun k' p h9 => HT.out k' p (by rw [hk']; exact (List.getElem?_eq_some_iff.1 h9).1) h9)
      clear HT
      by_cases hd0 : d < 0
      · go_wp2
        go_ret
        exact ⟨false, rfl, iff_of_false (by decide) (HTb.out.right hd0 HNO.out), _, rfl⟩
      have HD0 : Hid (¬ d < 0) := hid hd0
      go_wp2
      cases hab : abB ps c d with
      | true =>
        have HAB := hid hab
        clear hab
        go_quiet ((go_at_call 37; exact (refAboveP_at ps _ c d _ _ HAB.out HP.out.drewN).mono (fun _ _ h => ⟨h.1, _, h.2⟩)))
        go_wp2_with fail
        refine (HA.out _ (by first | exact Kp.drewN _ _ | exact (Kp.drewN _ _).trans (Kp.drewN _ _))).mono ?_
        rintro e w2 ⟨rfl, q2, rfl⟩
        go_wp2
        go_ret
        exact ⟨_, rfl, HALL.out.trans (HTb.out.up (by have h0 := HC0.out; omega) (by have h0 := HD0.out; omega) HNO.out HAB.out).symm, by (try simp only [World.drewN_drewN]); exact ⟨_, rfl⟩⟩
      | false =>
        have HAB := hid hab
        clear hab
        go_quiet ((go_at_call 37; exact (refAboveP_at ps _ c d _ _ HAB.out HP.out.drewN).mono (fun _ _ h => ⟨h.1, _, h.2⟩)))
        by_cases hcd : c = d
        · have hcc : (c != d) = false := by simp [hcd]
          have HE := hid hcd
          have HLN := hid (HTb.out.len (by have h0 := HC0.out; omega) hcd)
          clear hcd
          go_wp2
          go_quiet (fail)
          go_wp2
          go_loopw [12] (fun x wr => ∃ k : Nat, k ≤ a.length ∧ x = .int .i64 k ∧ (∀ k' p q : Nat, k' < k → a[k']? = some (p : Int) → b[k']? = some (q : Int) → tA sig s p = tA sig t q) ∧ ∃ q, wr = w.drewN q) (fun x _ => a.length - (intOf x).toNat)
          case atStart => exact ⟨0, Nat.zero_le _, rfl, fun k' p q h => absurd h (by omega), by (try simp only [World.drewN_drewN]); exact ⟨_, rfl⟩⟩
          case round =>
            obtain ⟨k2, hk2, rfl, ht2, q2, rfl⟩ := hrel
            have HT2 := hid ht2
            clear ht2
            by_cases hlt2 : k2 < a.length
            · have hltb : k2 < b.length := by rw [← HLN.out]; exact hlt2
              obtain ⟨ga, ofa, x, rfl, hx1, hx3⟩ := HCA.out k2 hlt2
              obtain ⟨gb, ofb, y, rfl, hy1, hy3⟩ := HCB.out k2 hltb
              obtain ⟨P, rfl, hP1, hP2⟩ := HTb.out.ka k2 x hx1
              obtain ⟨Q, rfl, hQ1, hQ2⟩ := HTb.out.kb k2 y hy1
              have hPn : P < n := by rw [← HN.out]; exact hP2
              have hQm : Q < m := by rw [← HM0.out]; exact hQ2
              have r4 := HX.out.hs P hPn
              have r5 := HX.out.hm P hPn
              have b4 := HX.out.bs P Q hPn hQm
              have b5 := HX.out.bm P Q hPn hQm
              have K1 := hid (HS.out P Q hP1 hPn hQm)
              have K2 := hid (HM.out P Q hP1 hPn hQm)
              have HX1 := hid hx1
              have HY1 := hid hy1
              clear hx1 hy1
              cases hb1 : sm P Q with
              | true =>
                rw [hb1] at b4
                have HB := hid hb1
                clear hb1
                go_wp2
                go_quiet (fail)
                go_wp2
                go_roundw
                case rel =>
                  refine ⟨k2 + 1, by omega, by go_num, fun k' p q h9 hk' hq' => ?_, _, rfl⟩
                  by_cases e : k' = k2
                  · subst e
                    have e2 := HX1.out.symm.trans hk'
                    have e3 := HY1.out.symm.trans hq'
                    simp only [Option.some.injEq, Int.natCast_inj] at e2 e3
                    subst e2 e3
                    exact K1.out.1 HB.out
                  · exact HT2.out k' p q (by omega) hk' hq'
                case measure => simp [intOf]; omega
              | false =>
                rw [hb1] at b4
                have HB := hid hb1
                clear hb1
                have HL := hid (HTb.out.lex (by have h0 := HC0.out; omega) HE.out HNO.out k2 P Q HT2.out HX1.out HY1.out (fun e => by have := K1.out.2 e; rw [HB.out] at this; exact absurd this (by decide)))
                cases hb2 : mo P Q with
                | true =>
                  rw [hb2] at b5
                  have HB2 := hid hb2
                  clear hb2
                  go_wp2
                  go_quiet (fail)
                  go_wp2
                  go_quiet ((go_at_call 38; exact (HA.out _ (by first | exact Kp.drewN _ _ | exact (Kp.drewN _ _).trans (Kp.drewN _ _))).mono (fun _ _ h => ⟨h.1, by obtain ⟨_, z, rfl⟩ := h; exact ⟨_, by rw [World.drewN_drewN, Nat.add_assoc]⟩⟩)))
                  go_wp2
                  go_ret
                  refine ⟨_, rfl, ?_, by (try simp only [World.drewN_drewN]); exact ⟨_, rfl⟩⟩
                  rw [HL.out, HALL.out]
                  exact ⟨fun h => ⟨K2.out.1 HB2.out, h⟩, fun h => h.2⟩
                | false =>
                  rw [hb2] at b5
                  have HB2 := hid hb2
                  clear hb2
                  go_wp2
                  go_quiet (fail)
                  go_wp2
                  go_quiet (fail)
                  go_wp2
                  go_ret
                  refine ⟨false, rfl, iff_of_false (by decide) (fun h => ?_), by (try simp only [World.drewN_drewN]); exact ⟨_, rfl⟩⟩
                  have := K2.out.2 (HL.out.1 h).1
                  rw [HB2.out] at this
                  exact absurd this (by decide)
            · have hk3 : k2 = a.length := by omega
              go_wp2
              go_quiet (fail)
              go_wp2
              go_quiet (fail)
              go_wp2
              go_ret
              exact ⟨false, rfl, iff_of_false (by decide) (HTb.out.lexNo (by have h0 := HC0.out; omega) HE.out HNO.out (fun k' p q h8 h9 => HT2.out k' p q (by rw [hk3]; exact (List.getElem?_eq_some_iff.1 h8).1) h8 h9)), by (try simp only [World.drewN_drewN]); exact ⟨_, rfl⟩⟩
        · have hcc : (c != d) = true := by simp [hcd]
          have HCD : Hid (c ≠ d) := hid hcd
          go_wp2
          go_quiet (fail)
          go_wp2
          go_ret
          exact ⟨false, rfl, iff_of_false (by decide) (HTb.out.unlike (by have h0 := HC0.out; omega) (by have h0 := HD0.out; omega) HNO.out HAB.out HCD.out), by (try simp only [World.drewN_drewN]); exact ⟨_, rfl⟩⟩

end Go.Proofs.YtcoaabgaolblfaaDoor

/- The document's table of layer 11 in memory. -/
namespace Go.Proofs.YtcoaabgaolblfaaDoor
open Go.RowKit Go.Maps

/-- A table of bools that grows by rows. -/
structure MX (base : Nat) (w : World) (sl : Value) (rb : Nat → Nat) (n k : Nat) (U : Nat → Nat → Bool) : Prop where
  own : w.ownsRow base 60 1 sl k ((List.range k).map fun i => .slice (some ⟨rb i, 0, none⟩) n n)
  rows : ∀ i, i < k → w.heap[rb i]? = some (.cells (rowB n (U i)) 4 (0, 0))
  low : ∀ i, i < k → base ≤ rb i
  inj : ∀ i j, i < k → j < k → rb i = rb j → i = j

theorem MX.later {base : Nat} {w w' : World} {sl : Value} {rb : Nat → Nat} {n k : Nat} {U : Nat → Nat → Bool} (h : MX base w sl rb n k U) (hb : Below w.heap.size w w') : MX base w' sl rb n k U :=
  ⟨ownsRow_later h.own hb, fun i hi => (hb.block _ (Array.getElem?_eq_some_iff.1 (h.rows i hi)).1).trans (h.rows i hi), h.low, h.inj⟩

theorem MX.keep {base : Nat} {w w' : World} {sl : Value} {rb : Nat → Nat} {n k : Nat} {U : Nat → Nat → Bool} (h : MX base w sl rb n k U) (h1 : ∀ i, i < k → w'.heap[rb i]? = w.heap[rb i]?) (h2 : ∀ g, sl.ownBlock = some g → w'.heap[g]? = w.heap[g]?) : MX base w' sl rb n k U := by
  refine ⟨⟨h.own.1, ?_⟩, fun i hi => (h1 i hi).trans (h.rows i hi), h.low, h.inj⟩
  rcases h.own.2 with h0 | ⟨g, cap, cur, hv, hb, hg, r⟩
  · exact .inl h0
  · exact .inr ⟨g, cap, cur, hv, hb, (h2 g (by rw [hv]; rfl)).trans hg, r⟩

theorem MX.blk {base : Nat} {w : World} {sl : Value} {rb : Nat → Nat} {n k : Nat} {U : Nat → Nat → Bool} (h : MX base w sl rb n k U) {g : Nat} (hg : sl.ownBlock = some g) : ∃ c, w.heap[g]? = some (.cells c 60 (0, 0)) := by
  rcases h.own.2 with ⟨hv, _⟩ | ⟨g', cap', cur', hv, _, hg', _⟩
  · rw [hv] at hg; cases hg
  · rw [hv] at hg
    simp only [Value.ownBlock, Option.some.injEq] at hg
    subst hg
    exact ⟨_, hg'⟩

theorem MX.form {base : Nat} {w : World} {sl : Value} {rb : Nat → Nat} {n k : Nat} {U : Nat → Nat → Bool} (h : MX base w sl rb n k U) (hk : 0 < k) :
    ∃ g rc, sl = .slice (some ⟨g, 0, none⟩) k rc ∧ k ≤ rc ∧ ∀ i, i < k → w.cell? ⟨g, i, none⟩ = some (.slice (some ⟨rb i, 0, none⟩) n n) := by
  have ho := h.own
  rcases ho.2 with ⟨_, h0⟩ | ⟨g, cap, cur, hv, hb, hg, hc, hm, hs, ht⟩
  · omega
  · subst hv
    refine ⟨g, cap, rfl, hc, fun i hi => ?_⟩
    rw [World.ownsRow.cellAt ho i (by omega)]
    simp [hi]

theorem MX.bit {base : Nat} {w : World} {sl : Value} {rb : Nat → Nat} {n k : Nat} {U : Nat → Nat → Bool} (h : MX base w sl rb n k U) {i j : Nat} (hi : i < k) (hj : j < n) : w.cell? ⟨rb i, j, none⟩ = some (.bool (U i j)) := by
  rw [cell_of_row w (rb i) j _ _ _ (h.rows i hi), rowB_get _ hj]

theorem MX.set {base : Nat} {w : World} {sl : Value} {rb : Nat → Nat} {n k : Nat} {U : Nat → Nat → Bool} (h : MX base w sl rb n k U) {i : Nat} (hi : i < k) (j : Nat) (x : Bool) : MX base (w.setCell ⟨rb i, j, none⟩ (.bool x)) sl rb n k (updB U i j x) := by
  refine ⟨⟨h.own.1, ?_⟩, fun i' hi' => ?_, h.low, h.inj⟩
  · rcases h.own.2 with h0 | ⟨g, cap, cur, hv, hb, hg, r⟩
    · exact .inl h0
    · exact .inr ⟨g, cap, cur, hv, hb, (heap_setCell_other _ _ _ _ (type_ne hg (h.rows i hi) (by decide))).trans hg, r⟩
  · by_cases e : i' = i
    · subst e
      rw [heap_setCell_same w (rb i') j _ _ _ (h.rows i' hi'), rowB_set]
      congr 2
      congr 1
      funext b
      simp [updB]
    · rw [heap_setCell_other _ _ _ _ (fun e2 => e (h.inj _ _ hi' hi e2)), h.rows i' hi']
      congr 2
      congr 1
      funext b
      simp [updB, e]

theorem run_make_bool11 (w : World) (n : Nat) (hn : n ≤ 512) : (Instr.makeSlice 60 (.int .i64 (n : Int)) (.int .i64 (n : Int))).run Tryd.prog w = .ok (.slice (some ⟨w.heap.size, 0, none⟩) n n) (w.alloc (.cells (rowB n (fun _ => false)) 4)) := by
  obtain ⟨i0, hi, hz0, hz1, hz2⟩ := info_parts3 info_boolB
  have h := run_make (P := Tryd.prog) w 60 4 i0 (.bool false) under_rowB hi hz0 .i64 .i64 (n : Int) (n : Int) (by omega) (Int.le_refl _) (by rw [hz2]; omega) (by omega)
  rw [hz1, Int.toNat_natCast, made_bool] at h
  exact h

def growRb (rb : Nat → Nat) (k b : Nat) : Nat → Nat := fun i => if i = k then b else rb i

set_option maxRecDepth 100000 in
/-- A row more. -/
theorem mx_grow {base : Nat} {w : World} {sl : Value} {rb : Nat → Nat} {n k : Nat} (h : MX base w sl rb n k (fun _ _ => false)) (hb : base ≤ w.heap.size) (hk : k < 512) :
    ∃ v' w3, (Builtin.append_ #[57, 57] 57 #[sl, .slice (some ⟨w.heap.size + 1, 0, none⟩) 1 1]).run Tryd.prog ((w.alloc (.cells (rowB n (fun _ => false)) 4)).alloc (.cells #[.slice (some ⟨w.heap.size, 0, none⟩) n n] 60)) = .ok v' w3 ∧
      MX base w3 v' (growRb rb k w.heap.size) n (k + 1) (fun _ _ => false) ∧ ((w.alloc (.cells (rowB n (fun _ => false)) 4)).alloc (.cells #[.slice (some ⟨w.heap.size, 0, none⟩) n n] 60)).grownBy w3 sl.ownBlock ∧ (v'.ownBlock = sl.ownBlock ∨ v'.ownBlock = some (w.heap.size + 2)) ∧
      (∀ g, g < w.heap.size → sl.ownBlock ≠ some g → w3.heap[g]? = w.heap[g]?) := by
  obtain ⟨i0, hi, hz0, hz1, hz2⟩ := info_parts3 info_rowB
  obtain ⟨w2, hw2⟩ : ∃ X, X = (w.alloc (.cells (rowB n (fun _ => false)) 4)).alloc (.cells #[.slice (some ⟨w.heap.size, 0, none⟩) n n] 60) := ⟨_, rfl⟩
  have hb2 : Below w.heap.size w w2 := by rw [hw2]; exact below_step (below_alloc _) (below_alloc _)
  have hsz : w2.heap.size = w.heap.size + 2 := by rw [hw2]; simp
  have hr : w2.heap[w.heap.size]? = some (.cells (rowB n (fun _ => false)) 4 (0, 0)) := by rw [hw2]; exact heap_alloc2_old _ _ _
  have hl : w2.heap[w.heap.size + 1]? = some (.cells #[.slice (some ⟨w.heap.size, 0, none⟩) n n] 60 (0, 0)) := by rw [hw2]; exact heap_alloc2_new _ _ _
  have h2 := h.later hb2
  obtain ⟨v', w3, hrun, ho3, hg3, _, hbl⟩ := run_append_own_at (P := Tryd.prog) w2 base 57 57 60 i0 _ 1 24 under_rowsB hi hz0 hz1 hz2 rfl (by decide) _ k _ h2.own ⟨w.heap.size + 1, 0, none⟩ 1 1 [.slice (some ⟨w.heap.size, 0, none⟩) n n] rfl (fun j u hj => by
    rw [Addr.add_lit]
    match j, hj with
    | 0, hj =>
      cases hj
      exact cell_of_row w2 _ _ _ _ _ hl) (fun u hu => by
    simp only [List.mem_singleton] at hu
    subst hu
    rfl) (by unfold maxLen; omega) (by omega) (Nat.le_trans hb hb2.size)
  rw [← hw2]
  have hold : ∀ g, g < w2.heap.size → sl.ownBlock ≠ some g → w3.heap[g]? = w2.heap[g]? := fun g hg hne => hg3.block g hg (Ne.symm hne)
  have hne : ∀ (g : Nat) (c : Array Value), w2.heap[g]? = some (.cells c 4 (0, 0)) → w3.heap[g]? = some (.cells c 4 (0, 0)) := fun g c hg => by
    refine (hold g (Array.getElem?_eq_some_iff.1 hg).1 (fun e => ?_)).trans hg
    obtain ⟨c', hc'⟩ := h2.blk e
    exact type_ne hg hc' (by decide) rfl
  refine ⟨v', w3, hrun, ⟨?_, fun i hi' => ?_, fun i hi' => ?_, fun i j hi' hj' e => ?_⟩, hg3, by rw [hsz] at hbl; exact hbl, fun g hg hn9 => (hold g (by omega) hn9).trans (hb2.block g hg)⟩
  · rw [List.range_succ, List.map_append]
    have : ((List.range k).map fun i => Value.slice (some ⟨growRb rb k w.heap.size i, 0, none⟩) n n) = (List.range k).map fun i => Value.slice (some ⟨rb i, 0, none⟩) n n := List.map_congr_left fun i hi' => by
      unfold growRb
      rw [if_neg (by have := List.mem_range.1 hi'; omega)]
    rw [this]
    simp only [List.map_cons, List.map_nil, growRb, if_true]
    exact ho3
  · unfold growRb
    by_cases e : i = k
    · rw [if_pos e]
      exact hne _ _ hr
    · rw [if_neg e]
      exact hne _ _ (h2.rows i (by omega))
  · unfold growRb
    by_cases e : i = k
    · rw [if_pos e]
      exact hb
    · rw [if_neg e]
      exact h.low i (by omega)
  · have hlt : ∀ i, i < k → rb i < w.heap.size := fun i hi => (Array.getElem?_eq_some_iff.1 (h.rows i hi)).1
    unfold growRb at e
    by_cases e1 : i = k <;> by_cases e2 : j = k
    · omega
    · simp only [e1, e2, if_true, if_false] at e
      have := hlt j (by omega)
      omega
    · simp only [e1, e2, if_true, if_false] at e
      have := hlt i (by omega)
      omega
    · simp only [e1, e2, if_false] at e
      exact h.inj i j (by omega) (by omega) e

/-- The table while it is made. -/
structure TbW (base : Nat) (w : World) (gx : Nat) (sv pv v1 v2 s4 s5 : Value) (rs rm : Nat → Nat) (n k1 k2 : Nat) (U V : Nat → Nat → Bool) : Prop where
  ptr : w.heap[gx]? = some (.cells #[sv, pv, v1, v2, s4, s5] 59 (0, 0))
  lo : base ≤ gx
  S : MX base w s4 rs n k1 U
  M : MX base w s5 rm n k2 V
  ap : ∀ i j, i < k1 → j < k2 → rs i ≠ rm j
  ao : ∀ g, s4.ownBlock = some g → s5.ownBlock ≠ some g

theorem TbW.later {base : Nat} {w w' : World} {gx : Nat} {sv pv v1 v2 s4 s5 : Value} {rs rm : Nat → Nat} {n k1 k2 : Nat} {U V : Nat → Nat → Bool} (h : TbW base w gx sv pv v1 v2 s4 s5 rs rm n k1 k2 U V) (hb : Below w.heap.size w w') : TbW base w' gx sv pv v1 v2 s4 s5 rs rm n k1 k2 U V :=
  ⟨(hb.block _ (Array.getElem?_eq_some_iff.1 h.ptr).1).trans h.ptr, h.lo, h.S.later hb, h.M.later hb, h.ap, h.ao⟩

theorem TbW.cells {base : Nat} {w : World} {gx : Nat} {sv pv v1 v2 s4 s5 : Value} {rs rm : Nat → Nat} {n k1 k2 : Nat} {U V : Nat → Nat → Bool} (h : TbW base w gx sv pv v1 v2 s4 s5 rs rm n k1 k2 U V) :
    w.cell? ⟨gx, 1, none⟩ = some pv ∧ w.cell? ⟨gx, 2, none⟩ = some v1 ∧ w.cell? ⟨gx, 3, none⟩ = some v2 ∧ w.cell? ⟨gx, 4, none⟩ = some s4 ∧ w.cell? ⟨gx, 5, none⟩ = some s5 :=
  ⟨cell_of_row w gx 1 _ _ _ h.ptr, cell_of_row w gx 2 _ _ _ h.ptr, cell_of_row w gx 3 _ _ _ h.ptr, cell_of_row w gx 4 _ _ _ h.ptr, cell_of_row w gx 5 _ _ _ h.ptr⟩

theorem TbW.set4 {base : Nat} {w : World} {gx : Nat} {sv pv v1 v2 s4 s5 : Value} {rs rm : Nat → Nat} {n k1 k2 : Nat} {U V : Nat → Nat → Bool} (h : TbW base w gx sv pv v1 v2 s4 s5 rs rm n k1 k2 U V) {i : Nat} (hi : i < k1) (j : Nat) (x : Bool) : TbW base (w.setCell ⟨rs i, j, none⟩ (.bool x)) gx sv pv v1 v2 s4 s5 rs rm n k1 k2 (updB U i j x) V := by
  have hr := h.S.rows i hi
  refine ⟨(heap_setCell_other _ _ _ _ (type_ne h.ptr hr (by decide))).trans h.ptr, h.lo, h.S.set hi j x, h.M.keep (fun i' hi' => heap_setCell_other _ _ _ _ (fun e => h.ap i i' hi hi' e.symm)) (fun g hg => ?_), h.ap, h.ao⟩
  obtain ⟨c, hc⟩ := h.M.blk hg
  exact heap_setCell_other _ _ _ _ (type_ne hc hr (by decide))

theorem TbW.set5 {base : Nat} {w : World} {gx : Nat} {sv pv v1 v2 s4 s5 : Value} {rs rm : Nat → Nat} {n k1 k2 : Nat} {U V : Nat → Nat → Bool} (h : TbW base w gx sv pv v1 v2 s4 s5 rs rm n k1 k2 U V) {i : Nat} (hi : i < k2) (j : Nat) (x : Bool) : TbW base (w.setCell ⟨rm i, j, none⟩ (.bool x)) gx sv pv v1 v2 s4 s5 rs rm n k1 k2 U (updB V i j x) := by
  have hr := h.M.rows i hi
  refine ⟨(heap_setCell_other _ _ _ _ (type_ne h.ptr hr (by decide))).trans h.ptr, h.lo, h.S.keep (fun i' hi' => heap_setCell_other _ _ _ _ (fun e => h.ap i' i hi' hi e)) (fun g hg => ?_), h.M.set hi j x, h.ap, h.ao⟩
  obtain ⟨c, hc⟩ := h.S.blk hg
  exact heap_setCell_other _ _ _ _ (type_ne hc hr (by decide))

/-- The table, read. -/
theorem TbW.rd {base : Nat} {w : World} {gx : Nat} {sv pv v1 v2 s4 s5 : Value} {rs rm : Nat → Nat} {m n : Nat} {U V : Nat → Nat → Bool} (h : TbW base w gx sv pv v1 v2 s4 s5 rs rm m n n U V) (hn : 0 < n) :
    ∃ gs gm cs cm, s4 = .slice (some ⟨gs, 0, none⟩) n cs ∧ s5 = .slice (some ⟨gm, 0, none⟩) n cm ∧ n ≤ cs ∧ n ≤ cm ∧ TbR w gx pv v1 v2 n m U V gs gm cs cm rs rm := by
  obtain ⟨gs, cs, rfl, hcs, h4⟩ := h.S.form hn
  obtain ⟨gm, cm, rfl, hcm, h5⟩ := h.M.form hn
  obtain ⟨c1, c2, c3, c4, c5⟩ := h.cells
  exact ⟨gs, gm, cs, cm, rfl, rfl, hcs, hcm, c1, c2, c3, c4, c5, h4, h5, fun i j hi hj => h.S.bit hi hj, fun i j hi hj => h.M.bit hi hj⟩

def madeW (w : World) (n : Nat) : World := (w.alloc (.cells (rowB n (fun _ => false)) 4)).alloc (.cells #[.slice (some ⟨w.heap.size, 0, none⟩) n n] 60)

theorem madeW_below (w : World) (n : Nat) : Below w.heap.size w (madeW w n) := below_step (below_alloc _) (below_alloc _)

/-- A row more of the first table. -/
theorem tb_grow4 {base : Nat} {w : World} {gx : Nat} {sv pv v1 v2 s4 s5 : Value} {rs rm : Nat → Nat} {n k1 k2 : Nat} {V : Nat → Nat → Bool} (h : TbW base w gx sv pv v1 v2 s4 s5 rs rm n k1 k2 (fun _ _ => false) V) (hb : base ≤ w.heap.size) (hk : k1 < 512) {B : Nat} {w0 : World} (hB : Below B w0 w) (hBb : B ≤ base) :
    ∃ v' w3, (Builtin.append_ #[57, 57] 57 #[s4, .slice (some ⟨w.heap.size + 1, 0, none⟩) 1 1]).run Tryd.prog ((w.alloc (.cells (rowB n (fun _ => false)) 4)).alloc (.cells #[.slice (some ⟨w.heap.size, 0, none⟩) n n] 60)) = .ok v' w3 ∧
      w3.cell? ⟨gx, 4, none⟩ = some s4 ∧ w3.frozen? ⟨gx, 4, none⟩ = false ∧ TbW base (w3.setCell ⟨gx, 4, none⟩ v') gx sv pv v1 v2 v' s5 (growRb rs k1 w.heap.size) rm n (k1 + 1) k2 (fun _ _ => false) V ∧ Below B w0 (w3.setCell ⟨gx, 4, none⟩ v') := by
  obtain ⟨v', w3, hrun, hM, hg, hbl, hold⟩ := mx_grow h.S hb hk
  have hbw := madeW_below w n
  unfold madeW at hbw
  have hlt : ∀ {g : Nat} {o : Obj}, w.heap[g]? = some o → g < w.heap.size := fun hg => (Array.getElem?_eq_some_iff.1 hg).1
  have hnb : ∀ {g : Nat} {c : Array Value} {t : TypeId}, w.heap[g]? = some (.cells c t (0, 0)) → t ≠ 60 → s4.ownBlock ≠ some g := fun hg9 ht e => by
    obtain ⟨c', hc'⟩ := h.S.blk e
    exact type_ne hg9 hc' ht rfl
  have hp3 : w3.heap[gx]? = some (.cells #[sv, pv, v1, v2, s4, s5] 59 (0, 0)) := (hold gx (hlt h.ptr) (hnb h.ptr (by decide))).trans h.ptr
  have hset : ∀ {g : Nat} {c : Array Value} {t : TypeId}, w3.heap[g]? = some (.cells c t (0, 0)) → t ≠ 59 → (w3.setCell ⟨gx, 4, none⟩ v').heap[g]? = w3.heap[g]? := fun hg9 ht => heap_setCell_other _ _ _ _ (type_ne hg9 hp3 ht)
  have hB3 : Below B w0 w3 := (hB.trans (hbw.mono (Nat.le_trans hBb hb))).grown hg (by have := hB.size; have := hbw.size; omega) (fun j hj => Nat.le_trans hBb (World.ownsRow.lt h.S.own _ hj).1)
  refine ⟨v', w3, hrun, cell_of_row w3 gx 4 _ _ _ hp3, frozen_of_row w3 gx 4 _ _ hp3, ⟨?_, h.lo, hM.keep (fun i hi => hset (hM.rows i hi) (by decide)) (fun g hg9 => ?_), h.M.keep (fun i hi => ?_) (fun g hg9 => ?_), fun i j hi hj => ?_, fun g hg9 e => ?_⟩, hB3.setCell (p := ⟨gx, 4, none⟩) (Nat.le_trans hBb h.lo) _⟩
  · rw [heap_setCell_same w3 gx 4 _ _ _ hp3]
    rfl
  · obtain ⟨c, hc⟩ := hM.blk hg9
    exact hset hc (by decide)
  · have e1 := hold (rm i) (hlt (h.M.rows i hi)) (hnb (h.M.rows i hi) (by decide))
    exact (hset (e1.trans (h.M.rows i hi)) (by decide)).trans e1
  · obtain ⟨c, hc⟩ := h.M.blk hg9
    have e1 := hold g (hlt hc) (fun e => h.ao g e hg9)
    exact (hset (e1.trans hc) (by decide)).trans e1
  · unfold growRb
    by_cases e : i = k1
    · rw [if_pos e]
      have := hlt (h.M.rows j hj)
      omega
    · rw [if_neg e]
      exact h.ap i j (by omega) hj
  · rcases hbl with hb1 | hb1
    · exact h.ao g (hb1 ▸ hg9) e
    · obtain ⟨c, hc⟩ := h.M.blk e
      have := hlt hc
      rw [hb1] at hg9
      simp only [Option.some.injEq] at hg9
      omega

/-- A row more of the second table. -/
theorem tb_grow5 {base : Nat} {w : World} {gx : Nat} {sv pv v1 v2 s4 s5 : Value} {rs rm : Nat → Nat} {n k1 k2 : Nat} {U : Nat → Nat → Bool} (h : TbW base w gx sv pv v1 v2 s4 s5 rs rm n k1 k2 U (fun _ _ => false)) (hb : base ≤ w.heap.size) (hk : k2 < 512) {B : Nat} {w0 : World} (hB : Below B w0 w) (hBb : B ≤ base) :
    ∃ v' w3, (Builtin.append_ #[57, 57] 57 #[s5, .slice (some ⟨w.heap.size + 1, 0, none⟩) 1 1]).run Tryd.prog ((w.alloc (.cells (rowB n (fun _ => false)) 4)).alloc (.cells #[.slice (some ⟨w.heap.size, 0, none⟩) n n] 60)) = .ok v' w3 ∧
      w3.cell? ⟨gx, 5, none⟩ = some s5 ∧ w3.frozen? ⟨gx, 5, none⟩ = false ∧ TbW base (w3.setCell ⟨gx, 5, none⟩ v') gx sv pv v1 v2 s4 v' rs (growRb rm k2 w.heap.size) n k1 (k2 + 1) U (fun _ _ => false) ∧ Below B w0 (w3.setCell ⟨gx, 5, none⟩ v') := by
  obtain ⟨v', w3, hrun, hM, hg, hbl, hold⟩ := mx_grow h.M hb hk
  have hbw := madeW_below w n
  unfold madeW at hbw
  have hlt : ∀ {g : Nat} {o : Obj}, w.heap[g]? = some o → g < w.heap.size := fun hg => (Array.getElem?_eq_some_iff.1 hg).1
  have hnb : ∀ {g : Nat} {c : Array Value} {t : TypeId}, w.heap[g]? = some (.cells c t (0, 0)) → t ≠ 60 → s5.ownBlock ≠ some g := fun hg9 ht e => by
    obtain ⟨c', hc'⟩ := h.M.blk e
    exact type_ne hg9 hc' ht rfl
  have hp3 : w3.heap[gx]? = some (.cells #[sv, pv, v1, v2, s4, s5] 59 (0, 0)) := (hold gx (hlt h.ptr) (hnb h.ptr (by decide))).trans h.ptr
  have hset : ∀ {g : Nat} {c : Array Value} {t : TypeId}, w3.heap[g]? = some (.cells c t (0, 0)) → t ≠ 59 → (w3.setCell ⟨gx, 5, none⟩ v').heap[g]? = w3.heap[g]? := fun hg9 ht => heap_setCell_other _ _ _ _ (type_ne hg9 hp3 ht)
  have hB3 : Below B w0 w3 := (hB.trans (hbw.mono (Nat.le_trans hBb hb))).grown hg (by have := hB.size; have := hbw.size; omega) (fun j hj => Nat.le_trans hBb (World.ownsRow.lt h.M.own _ hj).1)
  refine ⟨v', w3, hrun, cell_of_row w3 gx 5 _ _ _ hp3, frozen_of_row w3 gx 5 _ _ hp3, ⟨?_, h.lo, h.S.keep (fun i hi => ?_) (fun g hg9 => ?_), hM.keep (fun i hi => hset (hM.rows i hi) (by decide)) (fun g hg9 => ?_), fun i j hi hj => ?_, fun g hg9 e => ?_⟩, hB3.setCell (p := ⟨gx, 5, none⟩) (Nat.le_trans hBb h.lo) _⟩
  · rw [heap_setCell_same w3 gx 5 _ _ _ hp3]
    rfl
  · have e1 := hold (rs i) (hlt (h.S.rows i hi)) (hnb (h.S.rows i hi) (by decide))
    exact (hset (e1.trans (h.S.rows i hi)) (by decide)).trans e1
  · obtain ⟨c, hc⟩ := h.S.blk hg9
    have e1 := hold g (hlt hc) (fun e => h.ao g hg9 e)
    exact (hset (e1.trans hc) (by decide)).trans e1
  · obtain ⟨c, hc⟩ := hM.blk hg9
    exact hset hc (by decide)
  · unfold growRb
    by_cases e : j = k2
    · rw [if_pos e]
      have := hlt (h.S.rows i hi)
      omega
    · rw [if_neg e]
      exact h.ap i j hi (by omega)
  · rcases hbl with hb1 | hb1
    · exact h.ao g hg9 (hb1 ▸ e)
    · obtain ⟨c, hc⟩ := h.S.blk hg9
      have := hlt hc
      rw [hb1] at e
      simp only [Option.some.injEq] at e
      omega

theorem tb_start (w : World) (sv pv v1 v2 : Value) (n : Nat) : TbW w.heap.size (w.alloc (.cells #[sv, pv, v1, v2, .slice none 0 0, .slice none 0 0] 59)) w.heap.size sv pv v1 v2 (.slice none 0 0) (.slice none 0 0) (fun _ => 0) (fun _ => 0) n 0 0 (fun _ _ => false) (fun _ _ => false) :=
  ⟨heap_alloc_new _ _, Nat.le_refl _, ⟨⟨rfl, .inl ⟨rfl, rfl⟩⟩, fun _ h => by omega, fun _ h => by omega, fun _ _ h => by omega⟩, ⟨⟨rfl, .inl ⟨rfl, rfl⟩⟩, fun _ h => by omega, fun _ h => by omega, fun _ _ h => by omega⟩, fun _ _ h => by omega, fun _ h => by cases h⟩

end Go.Proofs.YtcoaabgaolblfaaDoor

/- The document's rows of places beside its table of layer 11. -/
namespace Go.Proofs.YtcoaabgaolblfaaDoor
open Go.RowKit Go.Maps

theorem info_ints11 : (Tryd.prog.info? 24).map (fun i => (i.zero, i.size, i.bytes)) = some (some (.slice none 0 0), 1, 24) := by kernel_rfl

theorem under_rows11 : Tryd.prog.underlying 61 = some (.slice 24) := by kernel_rfl

theorem own_blk11 {w : World} {base : Nat} {e : TypeId} {v : Value} {n : Nat} {xs : List Value} (h : w.ownsRow base e 1 v n xs) {g : Nat} (hg : v.ownBlock = some g) : ∃ c, w.heap[g]? = some (.cells c e (0, 0)) := by
  rcases h.2 with ⟨hv, _⟩ | ⟨g', cap', cur', hv, _, hg', _⟩
  · rw [hv] at hg; cases hg
  · rw [hv] at hg
    simp only [Value.ownBlock, Option.some.injEq] at hg
    subst hg
    exact ⟨_, hg'⟩

theorem own_keep11 {w w' : World} {base : Nat} {e : TypeId} {v : Value} {n : Nat} {xs : List Value} (h : w.ownsRow base e 1 v n xs) (h2 : ∀ g, v.ownBlock = some g → w'.heap[g]? = w.heap[g]?) : w'.ownsRow base e 1 v n xs := by
  refine ⟨h.1, ?_⟩
  rcases h.2 with h0 | ⟨g, cap, cur, hv, hb, hg, r⟩
  · exact .inl h0
  · exact .inr ⟨g, cap, cur, hv, hb, (h2 g (by rw [hv]; rfl)).trans hg, r⟩

/-- Rows of numbers of one's own, in a row of one's own. -/
def KRo (w : World) (base : Nat) (y : Value) (l : List (List Int)) : Prop := ∃ vs : List Value, vs.length = l.length ∧ w.ownsRow base 24 1 y l.length vs ∧ ∀ (j : Nat) (u : Value) (x : List Int), vs[j]? = some u → l[j]? = some x → OwI w base u x

theorem KRo.later {w w' : World} {base : Nat} {y : Value} {l : List (List Int)} (h : KRo w base y l) (hb : Below w.heap.size w w') : KRo w' base y l := by
  obtain ⟨vs, h1, h2, h3⟩ := h
  exact ⟨vs, h1, ownsRow_later h2 hb, fun j u x hj hx => (h3 j u x hj hx).later hb⟩

/-- What is written elsewhere. -/
theorem KRo.put {w : World} {base : Nat} {y : Value} {l : List (List Int)} (h : KRo w base y l) {g : Nat} {c : Array Value} (hg : w.heap[g]? = some (.cells c 4 (0, 0))) (j : Nat) (x : Value) : KRo (w.setCell ⟨g, j, none⟩ x) base y l := by
  obtain ⟨vs, h1, h2, h3⟩ := h
  refine ⟨vs, h1, own_keep11 h2 (fun g' hg' => ?_), fun j u x hj hx => ⟨(h3 j u x hj hx).1, own_keep11 (h3 j u x hj hx).2 (fun g' hg' => ?_)⟩⟩
  · obtain ⟨c', hc'⟩ := own_blk11 h2 hg'
    exact heap_setCell_other _ _ _ _ (type_ne hc' hg (by decide))
  · obtain ⟨c', hc'⟩ := own_blk11 (h3 j u x hj hx).2 hg'
    exact heap_setCell_other _ _ _ _ (type_ne hc' hg (by decide))

theorem OwI.put11 {w : World} {base : Nat} {v : Value} {l : List Int} (h : OwI w base v l) {g : Nat} {c : Array Value} (hg : w.heap[g]? = some (.cells c 4 (0, 0))) (j : Nat) (x : Value) : OwI (w.setCell ⟨g, j, none⟩ x) base v l := by
  refine ⟨h.1, own_keep11 h.2 (fun g' hg' => ?_)⟩
  obtain ⟨c', hc'⟩ := own_blk11 h.2 hg'
  exact heap_setCell_other _ _ _ _ (type_ne hc' hg (by decide))

theorem KRo.start (w : World) (base : Nat) : KRo w base (.slice none 0 0) [] := ⟨[], rfl, ⟨rfl, .inl ⟨rfl, rfl⟩⟩, fun j u x hj => by simp at hj⟩

theorem KRo.slice {w : World} {base : Nat} {y : Value} {l : List (List Int)} (h : KRo w base y l) : ∃ ro rc, y = .slice ro l.length rc := by
  obtain ⟨vs, h1, h2, h3⟩ := h
  rcases h2.2 with ⟨hv, h0⟩ | ⟨g, cap, cur, hv, _⟩
  · exact ⟨none, 0, by rw [hv, h0]⟩
  · exact ⟨_, _, hv⟩

theorem KRo.sliceN {w : World} {base : Nat} {y : Value} {l : List (List Int)} (h : KRo w base y l) {n : Nat} (hn : l.length = n) : ∃ ro rc, y = .slice ro n rc := by
  subst hn
  exact h.slice

/-- One of them. -/
theorem KRo.at {w : World} {base : Nat} {y : Value} {l : List (List Int)} (h : KRo w base y l) {j : Nat} {x : List Int} (hj : l[j]? = some x) : ∃ g rc ro xc, y = .slice (some ⟨g, 0, none⟩) l.length rc ∧ w.cell? ⟨g, j, none⟩ = some (.slice ro x.length xc) ∧ OwI w base (.slice ro x.length xc) x := by
  obtain ⟨vs, h1, h2, h3⟩ := h
  have hjl := (List.getElem?_eq_some_iff.1 hj).1
  obtain ⟨u, hu⟩ : ∃ u, vs[j]? = some u := ⟨_, List.getElem?_eq_getElem (by omega)⟩
  have ho := h3 j u x hu hj
  obtain ⟨ro, xc, rfl, _, _⟩ := ho.shape
  have h22 := h2
  rcases h22.2 with ⟨_, h0⟩ | ⟨g, cap, cur, rfl, hb, hg, hc, hm, hs, ht⟩
  · omega
  · refine ⟨g, cap, ro, xc, rfl, ?_, ho⟩
    rw [World.ownsRow.cellAt h2 j (by omega), hu]

/-- A row more. -/
theorem kr_join {w : World} {base : Nat} {y u : Value} {l : List (List Int)} {x : List Int} (h : KRo w base y l) (hu : OwI w base u x) (hb : base ≤ w.heap.size) (hl : (l.length + 1) * 24 ≤ 140737488355328) :
    ∃ v' w', (Builtin.append_ #[61, 61] 61 #[y, .slice (some ⟨w.heap.size, 0, none⟩) 1 1]).run Tryd.prog (w.alloc (.cells #[u] 24)) = .ok v' w' ∧ KRo w' base v' (l ++ [x]) ∧ (w.alloc (.cells #[u] 24)).grownBy w' y.ownBlock := by
  obtain ⟨vs, k1, k2, k3⟩ := h
  obtain ⟨i1, hi1, hy0, hy1, hy2⟩ := info_parts info_ints11
  have k2a := ownsRow_later k2 (below_alloc (w := w) (.cells #[u] 24))
  obtain ⟨v', w', hr, h2, h3, _, _⟩ := run_append_own_at (P := Tryd.prog) (w.alloc (.cells #[u] 24)) base 61 61 24 i1 _ 1 24 under_rows11 hi1 hy0 hy1 hy2 rfl (by decide) y l.length vs k2a ⟨w.heap.size, 0, none⟩ 1 1 [u] rfl
    (fun j y hj => by
      rw [Addr.add_lit, Nat.zero_add]
      cases j with
      | zero =>
        simp at hj
        subst hj
        exact cell_new rfl
      | succ j => simp at hj) (fun y hy => by simp at hy; subst hy; obtain ⟨_, _, rfl, _⟩ := hu.shape; rfl) (by unfold maxLen; omega) (by omega) (Nat.le_trans hb (below_alloc _).size)
  have hk : ∀ {u' : Value} {x' : List Int}, OwI w base u' x' → OwI w' base u' x' := fun {u' x'} hu' => (hu'.later (below_alloc _)).kept h3 (ownsRow_apart (hu'.later (below_alloc _)).2 k2a (by decide))
  refine ⟨v', w', hr, ⟨vs ++ [u], by simp [k1], by simpa using h2, fun j u' x' hj hx => ?_⟩, h3⟩
  by_cases hjl : j < vs.length
  · rw [List.getElem?_append_left hjl] at hj
    rw [List.getElem?_append_left (by omega)] at hx
    exact hk (k3 j u' x' hj hx)
  · rw [List.getElem?_append_right (by omega)] at hj
    rw [List.getElem?_append_right (by omega)] at hx
    have hj0 : j - vs.length = 0 := by
      have := (List.getElem?_eq_some_iff.1 hj).1
      simp at this
      omega
    rw [hj0] at hj
    rw [← k1, hj0] at hx
    simp at hj hx
    subst hj
    subst hx
    exact hk hu

/-- The table beside a row of rows that grows. -/
theorem TbW.grown {base : Nat} {w w' : World} {gx : Nat} {sv pv v1 v2 s4 s5 : Value} {rs rm : Nat → Nat} {n k1 k2 : Nat} {U V : Nat → Nat → Bool} (h : TbW base w gx sv pv v1 v2 s4 s5 rs rm n k1 k2 U V) {y : Value} {l : List (List Int)} (hy : KRo w base y l) (hg : w.grownBy w' y.ownBlock) : TbW base w' gx sv pv v1 v2 s4 s5 rs rm n k1 k2 U V := by
  obtain ⟨vs, q1, q2, q3⟩ := hy
  have hk : ∀ {g : Nat} {c : Array Value} {t : TypeId}, w.heap[g]? = some (.cells c t (0, 0)) → t ≠ 24 → w'.heap[g]? = w.heap[g]? := fun {g c t} h9 ht => hg.block g (Array.getElem?_eq_some_iff.1 h9).1 (fun e => by
    obtain ⟨c', hc'⟩ := own_blk11 q2 e.symm
    exact type_ne h9 hc' ht rfl)
  refine ⟨(hk h.ptr (by decide)).trans h.ptr, h.lo, h.S.keep (fun i hi => hk (h.S.rows i hi) (by decide)) (fun g hg9 => ?_), h.M.keep (fun i hi => hk (h.M.rows i hi) (by decide)) (fun g hg9 => ?_), h.ap, h.ao⟩
  · obtain ⟨c, hc⟩ := h.S.blk hg9
    exact hk hc (by decide)
  · obtain ⟨c, hc⟩ := h.M.blk hg9
    exact hk hc (by decide)

end Go.Proofs.YtcoaabgaolblfaaDoor

/- What of the document's table of layer 11 is told: plain. -/
namespace Go.Proofs.YtcoaabgaolblfaaDoor

/-- The rows from k on are told. -/
def DnS (sig : List Sy) (s t : List Int) (U : Nat → Nat → Bool) (k : Nat) : Prop := ∀ p q : Nat, k ≤ p → p < s.length → q < t.length → (U p q = true ↔ tA sig s p = tA sig t q)

def DnM (sig : List Sy) (ab : Int → Int → Bool) (s t : List Int) (V : Nat → Nat → Bool) (k : Nat) : Prop := ∀ p q : Nat, k ≤ p → p < s.length → q < t.length → (V p q = true ↔ LG ab (tA sig s p) (tA sig t q))

def RwS (sig : List Sy) (s t : List Int) (U : Nat → Nat → Bool) (i m : Nat) : Prop := ∀ q : Nat, m ≤ q → q < t.length → (U i q = true ↔ tA sig s i = tA sig t q)

def RwM (sig : List Sy) (ab : Int → Int → Bool) (s t : List Int) (V : Nat → Nat → Bool) (i m : Nat) : Prop := ∀ q : Nat, m ≤ q → q < t.length → (V i q = true ↔ LG ab (tA sig s i) (tA sig t q))

theorem DnS.set {sig : List Sy} {s t : List Int} {U : Nat → Nat → Bool} {i j : Nat} {x : Bool} (h : DnS sig s t U (i + 1)) : DnS sig s t (updB U i j x) (i + 1) := fun p q h1 h2 h3 => by
  have : updB U i j x p q = U p q := by simp [updB]; omega
  rw [this]
  exact h p q h1 h2 h3

theorem DnM.set {sig : List Sy} {ab : Int → Int → Bool} {s t : List Int} {U : Nat → Nat → Bool} {i j : Nat} {x : Bool} (h : DnM sig ab s t U (i + 1)) : DnM sig ab s t (updB U i j x) (i + 1) := fun p q h1 h2 h3 => by
  have : updB U i j x p q = U p q := by simp [updB]; omega
  rw [this]
  exact h p q h1 h2 h3

theorem RwS.set {sig : List Sy} {s t : List Int} {U : Nat → Nat → Bool} {i j : Nat} {x : Bool} (h : RwS sig s t U i (j + 1)) (hx : x = true ↔ tA sig s i = tA sig t j) : RwS sig s t (updB U i j x) i j := fun q h1 h2 => by
  by_cases e : q = j
  · subst e
    have : updB U i q x i q = x := by simp [updB]
    rw [this]
    exact hx
  · have : updB U i j x i q = U i q := by simp [updB, e]
    rw [this]
    exact h q (by omega) h2

theorem RwM.set {sig : List Sy} {ab : Int → Int → Bool} {s t : List Int} {U : Nat → Nat → Bool} {i j : Nat} {x : Bool} (h : RwM sig ab s t U i (j + 1)) (hx : x = true ↔ LG ab (tA sig s i) (tA sig t j)) : RwM sig ab s t (updB U i j x) i j := fun q h1 h2 => by
  by_cases e : q = j
  · subst e
    have : updB U i q x i q = x := by simp [updB]
    rw [this]
    exact hx
  · have : updB U i j x i q = U i q := by simp [updB, e]
    rw [this]
    exact h q (by omega) h2

theorem DnS.row {sig : List Sy} {s t : List Int} {U : Nat → Nat → Bool} {i : Nat} (h : DnS sig s t U (i + 1)) (hr : RwS sig s t U i 0) : DnS sig s t U i := fun p q h1 h2 h3 => by
  by_cases e : p = i
  · subst e
    exact hr q (by omega) h3
  · exact h p q (by omega) h2 h3

theorem DnM.row {sig : List Sy} {ab : Int → Int → Bool} {s t : List Int} {U : Nat → Nat → Bool} {i : Nat} (h : DnM sig ab s t U (i + 1)) (hr : RwM sig ab s t U i 0) : DnM sig ab s t U i := fun p q h1 h2 h3 => by
  by_cases e : p = i
  · subst e
    exact hr q (by omega) h3
  · exact h p q (by omega) h2 h3

/-- The answer. -/
theorem gr_tA {sig : List Sy} {ps : List (Int × Int)} {s t : List Int} (h1 : mayB sig s = true) (h2 : mayB sig t = true) : grB sig ps s t = true ↔ LG (abB ps) (tA sig s 0) (tA sig t 0) := by
  obtain ⟨x, x1, x2, x3⟩ := may_tree h1
  obtain ⟨y, y1, y2, y3⟩ := may_tree h2
  rw [gr_yes h1 h2 x1 y1, tA_eq x3 ⟨[], by simp [x2]⟩, tA_eq y3 ⟨[], by simp [y2]⟩]

theorem may_pos {sig : List Sy} {s : List Int} (h : mayB sig s = true) : 0 < s.length := by
  obtain ⟨x, _, x2, _⟩ := may_tree h
  rw [← x2, size_row]
  exact size_pos x

end Go.Proofs.YtcoaabgaolblfaaDoor

/- The document's look at two places, called from a table that is being filled. -/
namespace Go.Proofs.YtcoaabgaolblfaaDoor
open Go.RowKit Go.Maps Go.BigFrame

set_option maxRecDepth 100000 in
theorem tab_call (gx : Nat) (sv pv v1 v2 : Value) (s t : List Int) (U V : Nat → Nat → Bool) (gs gm rc4 rc5 : Nat) (rs rm : Nat → Nat) (i j : Nat) (av bv : Value) (sig : List Sy) (ps : List (Int × Int)) (W : World)
    (hR : TbW gx W gx sv pv v1 v2 (.slice (some ⟨gs, 0, none⟩) s.length rc4) (.slice (some ⟨gm, 0, none⟩) s.length rc5) rs rm t.length s.length s.length U V) (hp : Rc W pv ps) (h1 : Is W v1 s) (h2 : Is W v2 t) (ha : Is W av (kidsL sig s i)) (hb : Is W bv (kidsL sig t j)) (hi : i < s.length) (hj : j < t.length) (hc : ∀ i, ¬ Up ps i i) (har : ArOk sig) (e1 : termE sig s = 0) (e2 : termE sig t = 0)
    (hS : DnS sig s t U (i + 1)) (hM : DnM sig (abB ps) s t V (i + 1)) (hr : RwM sig (abB ps) s t V i (j + 1)) :
    Calls Tryd.prog 22 #[.pointer (some ⟨gx, 0, none⟩), .int .i64 i, .int .i64 j, av, bv] W fun e w' => ∃ r : Bool, e = .returned (.bool r) ∧ (r = true ↔ LG (abB ps) (tA sig s i) (tA sig t j)) ∧ ∃ q, w' = W.drewN q := by
  obtain ⟨gs', gm', cs', cm', e4, e5, _, _, hTb⟩ := hR.rd (by omega)
  simp only [Value.slice.injEq, Option.some.injEq, Addr.mk.injEq, true_and, and_true] at e4 e5
  obtain ⟨rfl, rfl⟩ := e4
  obtain ⟨rfl, rfl⟩ := e5
  exact greater11_any gx pv v1 v2 s.length t.length U V gs gm rc4 rc5 rs rm i j av bv (kidsL sig s i) (kidsL sig t j) s t s[i] t[j] sig ps W hTb hp h1 h2 rfl rfl ha hb (List.getElem?_eq_getElem hi) (List.getElem?_eq_getElem hj) (tab_of (LG.no hc) (abB_ir hc) har e1 e2 (List.getElem?_eq_getElem hi) (List.getElem?_eq_getElem hj)) (fun p q h1 h2 h3 => hS p q h1 h2 h3) (fun p q h1 h2 h3 => hM p q h1 h2 h3) (fun q h1 h2 => hr q h1 h2)

end Go.Proofs.YtcoaabgaolblfaaDoor
