/- One pair more. -/
import Derived.Test.YtagndlcpcggmpaaTPrcG
import Derived.Test.YtagndlcpcggmpaaPrecOrders
namespace Go.Proofs.Ytagndlcpcggmpaa
open Go.RowKit Go.Maps

theorem closeE_more {n : Int} {ps : List (Int × Int)} {x : Int × Int} (h : closeE n ps ≠ 0) : closeE n (ps ++ [x]) ≠ 0 := fun h0 => by
  obtain ⟨h1, h2, h3, h4⟩ := closeE_zero h0
  exact h (closeE_ok h1 h2 (fun y hy => h3 y (List.mem_append_left _ hy)) (fun i hi => h4 i (Up.mono (fun y hy => List.mem_append_left _ hy) hi)))

theorem closeE_more_sym {n f g : Int} {ps : List (Int × Int)} (h : closeE n ps = 0) (hf : ¬ (0 ≤ f ∧ f < n ∧ 0 ≤ g ∧ g < n)) : closeE n (ps ++ [(f, g)]) = 100 := by
  obtain ⟨h1, h2, h3, h4⟩ := closeE_zero h
  refine closeE_sym h1 h2 (fun hh => hf ?_)
  exact hh (f, g) (List.mem_append_right _ (by simp))

theorem inN_more {n f g : Int} {ps : List (Int × Int)} (h : InN n ps) (hf : 0 ≤ f ∧ f < n ∧ 0 ≤ g ∧ g < n) : InN n (ps ++ [(f, g)]) := fun x hx => by
  rcases List.mem_append.1 hx with hx | hx
  · exact h x hx
  · simp only [List.mem_singleton] at hx
    subst hx
    exact hf

theorem closeE_more_cyc {n : Int} {f g : Nat} {ps : List (Int × Int)} (h : closeE n ps = 0) (hf : (f : Int) < n) (hg : (g : Int) < n) (hc : f = g ∨ abB ps (g : Int) (f : Int) = true) : closeE n (ps ++ [((f : Int), (g : Int))]) = 101 := by
  obtain ⟨h1, h2, h3, h4⟩ := closeE_zero h
  refine closeE_cyc h1 h2 (inN_more h3 (by omega)) ⟨f, (up_more ps f g f f).2 (.inr ⟨.inl rfl, ?_⟩)⟩
  rcases hc with rfl | hc
  · exact .inl rfl
  · exact .inr ((abB_nat ps g f).1 hc)

theorem closeE_more_ok {n : Int} {f g : Nat} {ps : List (Int × Int)} (h : closeE n ps = 0) (hf : (f : Int) < n) (hg : (g : Int) < n) (hc : f ≠ g) (hc2 : abB ps (g : Int) (f : Int) = false) : closeE n (ps ++ [((f : Int), (g : Int))]) = 0 := by
  obtain ⟨h1, h2, h3, h4⟩ := closeE_zero h
  have hn : ¬ Up ps g f := fun hh => by rw [(abB_nat ps g f).2 hh] at hc2; cases hc2
  refine closeE_ok h1 h2 (inN_more h3 (by omega)) (fun i hi => ?_)
  rcases (up_more ps f g i i).1 hi with hi | ⟨h5, h6⟩
  · exact h4 i hi
  · rcases h5 with rfl | h5
    · rcases h6 with h6 | h6
      · exact hc h6
      · exact hn h6
    · rcases h6 with rfl | h6
      · exact hn h5
      · exact hn (Up.tr ps _ _ _ h6 h5)

theorem abB_more (ps : List (Int × Int)) (f g i k : Nat) : abB (ps ++ [((f : Int), (g : Int))]) (i : Int) (k : Int) = (abB ps (i : Int) (k : Int) || ((decide (i = f) || abB ps (i : Int) (f : Int)) && (decide (k = g) || abB ps (g : Int) (k : Int)))) := by
  rw [Bool.eq_iff_iff, abB_nat, up_more]
  simp only [Bool.or_eq_true, Bool.and_eq_true, decide_eq_true_eq, abB_nat]


set_option maxRecDepth 100000 in
set_option maxHeartbeats 6400000 in
theorem precMore_any (n : Int) (v : Value) (ps : List (Int × Int)) (f g : Int) (w : World) (hp : Prs w v ps) (hl : ps.length * 16 ≤ 140737488351232) (hf : -9223372036854775808 ≤ f ∧ f ≤ 9223372036854775807) (hg : -9223372036854775808 ≤ g ∧ g ≤ 9223372036854775807) :
    Calls Try.prog 6 #[.int .i64 n, v, .int .i64 f, .int .i64 g] w fun e w' => e = .returned (.bool true) ∧ Below w.heap.size w w' := by
  obtain ⟨ao, cap, rfl, hcap, hcm, _⟩ := Row.flat hp
  have HP : Hid (Prs w (.slice ao ps.length cap) ps) := hp
  clear hp
  go_enter Try.func6, Try.ntmps6
  go_wp2_with fail
  refine (shown10_any w).mono ?_
  rintro e w1 ⟨rfl, hb1⟩
  have B1 : Hid (Below w.heap.size w w1) := hb1
  clear hb1
  go_wp2_with fail
  refine (close_any n _ ps w1 (HP.out.later B1.out)).mono ?_
  intro e w2 hc
  have B2 : Hid (Below w.heap.size w w2) := below_step B1.out hc.1
  obtain ⟨v3, w3, hr3, hO3, hg3, _⟩ := join_prs 22 (empty_prs (w := w2) (base := w2.heap.size) (Nat.le_refl _)) ((HP.out.later B2.out).later (below_alloc (.cells #[] 31))) (below_alloc _).size (by simp; omega)
  rw [List.nil_append] at hO3
  have hb3 : Below w2.heap.size w2 w3 := (empty_prs (w := w2) (base := w2.heap.size) (Nat.le_refl _)).grown (below_alloc _) hg3
  obtain ⟨ao3, cap3, rfl, _, _, _⟩ := Row.flat hO3.prs
  obtain ⟨v4, w4, hr4, hO4, hg4, _⟩ := join_prs 22 (hO3.later (below_alloc (.cells #[.int .i64 f, .int .i64 g] 31))) (prs_one w3 f g hf hg) (Nat.le_trans hb3.size (below_alloc _).size) (by simp; omega)
  have hb4 : Below w2.heap.size w2 w4 := (hO3.later (below_alloc (.cells #[.int .i64 f, .int .i64 g] 31))).grown (below_step hb3 (below_alloc _)) hg4
  have HO : Hid (Prs w4 v4 (ps ++ [(f, g)])) := hO4.prs
  have B4 : Hid (Below w2.heap.size w2 w4) := hb4
  have HC := hidP hc
  clear hcap hcm
  have HR3 := hidP hr3
  have HR4 := hidP hr4
  clear hc hb3 hb4 hO3 hO4 hg3 hg4 hr3 hr4
  by_cases h0 : closeE n ps = 0
  · obtain ⟨_, gp, rfl, hp2⟩ := HC.out.ok h0
    have HPc : Hid (Pc w4 (.pointer (some ⟨gp, 0, none⟩)) ps) := hp2.later B4.out
    have H0 := hidP h0
    clear hp2 h0
    go_wp2_with (first
      | fail
      | (at_builtin; refine wpList_append_runP rfl _ _ _ rfl _ _ rfl rfl HR3.out ?_)
      | (at_builtin; refine wpList_append_runP rfl _ _ _ rfl _ _ rfl rfl HR4.out ?_))
    refine (close_any n _ (ps ++ [(f, g)]) w4 HO.out).mono ?_
    intro e w5 hc5
    have B5 : Hid (Below w.heap.size w w5) := below_step (below_step B2.out B4.out) hc5.1
    have HPc : Hid (Pc w5 (.pointer (some ⟨gp, 0, none⟩)) ps) := HPc.out.later hc5.1
    clear HR3 HR4
    by_cases hin : 0 ≤ f ∧ f < n ∧ 0 ≤ g ∧ g < n
    · obtain ⟨q1, q2, q3, q4⟩ := hin
      obtain ⟨F, rfl⟩ := Int.eq_ofNat_of_zero_le q1
      obtain ⟨G, rfl⟩ := Int.eq_ofNat_of_zero_le q3
      have q1 : ¬ (F : Int) < 0 := by omega
      have q3 : ¬ (G : Int) < 0 := by omega
      have q2b : ¬ n ≤ (F : Int) := by omega
      have q4b : ¬ n ≤ (G : Int) := by omega
      by_cases hFG : F = G
      · obtain ⟨_, rfl⟩ := hc5.err (closeE_more_cyc H0.out q2 q4 (.inl hFG)) (by decide)
        have hFG2 : ((F : Int) == (G : Int)) = true := by simp [hFG]
        clear hc5 hFG
        go_wp2_with fail
        go_wp2
        go_ret
        exact ⟨rfl, B5.out⟩
      · have hFG2 : ((F : Int) == (G : Int)) = false := by simp; omega
        cases hgf : abB ps (G : Int) (F : Int) with
        | true =>
          obtain ⟨_, rfl⟩ := hc5.err (closeE_more_cyc H0.out q2 q4 (.inr hgf)) (by decide)
          have Hgf := hidP hgf
          clear hc5 hgf
          go_wp2_with fail
          refine (above_any ps (.pointer (some ⟨gp, 0, none⟩)) (G : Int) (F : Int) w5 HPc.out).mono ?_
          rintro e w6 ⟨rfl, hbn⟩
          have HPcn : Hid (Pc w6 (.pointer (some ⟨gp, 0, none⟩)) ps) := HPc.out.later hbn
          have B5n : Hid (Below w.heap.size w w6) := below_step B5.out hbn
          clear hbn HPc B5
          have HPc := HPcn
          have B5 := B5n
          clear HPcn B5n
          rw [Hgf.out]
          go_wp2
          go_ret
          exact ⟨rfl, B5.out⟩
        | false =>
          obtain ⟨_, gq, rfl, hq5⟩ := hc5.ok (closeE_more_ok H0.out q2 q4 hFG hgf)
          have HQc : Hid (Pc w5 (.pointer (some ⟨gq, 0, none⟩)) (ps ++ [((F : Int), (G : Int))])) := hq5
          have Hgf := hidP hgf
          clear hc5 hgf hq5 hFG
          go_wp2_with fail
          refine (above_any ps (.pointer (some ⟨gp, 0, none⟩)) (G : Int) (F : Int) w5 HPc.out).mono ?_
          rintro e w6 ⟨rfl, hbn⟩
          have HPcn : Hid (Pc w6 (.pointer (some ⟨gp, 0, none⟩)) ps) := HPc.out.later hbn
          have HQcn : Hid (Pc w6 (.pointer (some ⟨gq, 0, none⟩)) (ps ++ [((F : Int), (G : Int))])) := HQc.out.later hbn
          have B5n : Hid (Below w.heap.size w w6) := below_step B5.out hbn
          clear hbn HPc HQc B5
          have HPc := HPcn
          have HQc := HQcn
          have B5 := B5n
          clear HPcn HQcn B5n
          rw [Hgf.out]
          have hn0 : 0 ≤ n := (closeE_zero H0.out).1
          have hn1 : n ≤ 128 := (closeE_zero H0.out).2.1
          go_wp2
          go_loopw [14] (fun i wr => ∃ k : Nat, (k : Int) ≤ n ∧ i = .int .i64 k ∧ Pc wr (.pointer (some ⟨gp, 0, none⟩)) ps ∧ Pc wr (.pointer (some ⟨gq, 0, none⟩)) (ps ++ [((F : Int), (G : Int))]) ∧ Below w.heap.size w wr) (fun i _ => (n - intOf i).toNat)
          case atStart => exact ⟨0, hn0, rfl, HPc.out, HQc.out, B5.out⟩
          case round =>
            clear HPc HQc B5
            obtain ⟨i, hi, rfl, hx1, hx2, hx3⟩ := hrel
            have HPc : Hid (Pc wr (.pointer (some ⟨gp, 0, none⟩)) ps) := hx1
            have HQc : Hid (Pc wr (.pointer (some ⟨gq, 0, none⟩)) (ps ++ [((F : Int), (G : Int))])) := hx2
            have B5 : Hid (Below w.heap.size w wr) := hx3
            clear hx1 hx2 hx3
            by_cases hi2 : (i : Int) < n
            · have hid : decide ((i : Int) < n) = true := by simp [hi2]
              go_wp2
              go_loopw [15] (fun i wr => ∃ k : Nat, (k : Int) ≤ n ∧ i = .int .i64 k ∧ Pc wr (.pointer (some ⟨gp, 0, none⟩)) ps ∧ Pc wr (.pointer (some ⟨gq, 0, none⟩)) (ps ++ [((F : Int), (G : Int))]) ∧ Below w.heap.size w wr) (fun i _ => (n - intOf i).toNat)
              case atStart => exact ⟨0, hn0, rfl, HPc.out, HQc.out, B5.out⟩
              case round =>
                clear HPc HQc B5
                obtain ⟨k, hk, rfl, hx1, hx2, hx3⟩ := hrel
                have HPc : Hid (Pc wr (.pointer (some ⟨gp, 0, none⟩)) ps) := hx1
                have HQc : Hid (Pc wr (.pointer (some ⟨gq, 0, none⟩)) (ps ++ [((F : Int), (G : Int))])) := hx2
                have B5 : Hid (Below w.heap.size w wr) := hx3
                clear hx1 hx2 hx3
                by_cases hk2 : (k : Int) < n
                · have hm := abB_more ps F G i k
                  cases hiF : ((i : Int) == (F : Int)) with
                  | true =>
                    have ei : decide (i = F) = true := by simp at hiF ⊢; omega
                    cases hkG : ((k : Int) == (G : Int)) with
                    | true =>
                      have ek : decide (k = G) = true := by simp at hkG ⊢; omega
                      cases hy : abB ps (i : Int) (k : Int) with
                      | true =>
                        have Hy := hidP hy
                        have Hm : Hid (abB (ps ++ [((F : Int), (G : Int))]) (i : Int) (k : Int) = true) := by rw [hm, hy, ei, ek]; rfl
                        clear hy hm
                        go_wp2_with fail
                        refine (above_any (ps ++ [((F : Int), (G : Int))]) (.pointer (some ⟨gq, 0, none⟩)) (i : Int) (k : Int) wr HQc.out).mono ?_
                        rintro e w7 ⟨rfl, hbn⟩
                        have HPcn : Hid (Pc w7 (.pointer (some ⟨gp, 0, none⟩)) ps) := HPc.out.later hbn
                        have HQcn : Hid (Pc w7 (.pointer (some ⟨gq, 0, none⟩)) (ps ++ [((F : Int), (G : Int))])) := HQc.out.later hbn
                        have B5n : Hid (Below w.heap.size w w7) := below_step B5.out hbn
                        clear hbn HPc HQc B5
                        have HPc := HPcn
                        have HQc := HQcn
                        have B5 := B5n
                        clear HPcn HQcn B5n
                        rw [Hm.out]
                        go_wp2_with fail
                        refine (above_any ps (.pointer (some ⟨gp, 0, none⟩)) (i : Int) (k : Int) w7 HPc.out).mono ?_
                        rintro e w8 ⟨rfl, hbn⟩
                        have HPcn : Hid (Pc w8 (.pointer (some ⟨gp, 0, none⟩)) ps) := HPc.out.later hbn
                        have HQcn : Hid (Pc w8 (.pointer (some ⟨gq, 0, none⟩)) (ps ++ [((F : Int), (G : Int))])) := HQc.out.later hbn
                        have B5n : Hid (Below w.heap.size w w8) := below_step B5.out hbn
                        clear hbn HPc HQc B5
                        have HPc := HPcn
                        have HQc := HQcn
                        have B5 := B5n
                        clear HPcn HQcn B5n
                        rw [Hy.out]
                        go_wp2
                        go_roundw
                        case rel => exact ⟨k + 1, by omega, by go_num, HPc.out, HQc.out, B5.out⟩
                        case measure => simp [intOf]; omega
                      | false =>
                        have Hy := hidP hy
                        have Hm : Hid (abB (ps ++ [((F : Int), (G : Int))]) (i : Int) (k : Int) = true) := by rw [hm, hy, ei, ek]; rfl
                        clear hy hm
                        go_wp2_with fail
                        refine (above_any (ps ++ [((F : Int), (G : Int))]) (.pointer (some ⟨gq, 0, none⟩)) (i : Int) (k : Int) wr HQc.out).mono ?_
                        rintro e w7 ⟨rfl, hbn⟩
                        have HPcn : Hid (Pc w7 (.pointer (some ⟨gp, 0, none⟩)) ps) := HPc.out.later hbn
                        have HQcn : Hid (Pc w7 (.pointer (some ⟨gq, 0, none⟩)) (ps ++ [((F : Int), (G : Int))])) := HQc.out.later hbn
                        have B5n : Hid (Below w.heap.size w w7) := below_step B5.out hbn
                        clear hbn HPc HQc B5
                        have HPc := HPcn
                        have HQc := HQcn
                        have B5 := B5n
                        clear HPcn HQcn B5n
                        rw [Hm.out]
                        go_wp2_with fail
                        refine (above_any ps (.pointer (some ⟨gp, 0, none⟩)) (i : Int) (k : Int) w7 HPc.out).mono ?_
                        rintro e w8 ⟨rfl, hbn⟩
                        have HPcn : Hid (Pc w8 (.pointer (some ⟨gp, 0, none⟩)) ps) := HPc.out.later hbn
                        have HQcn : Hid (Pc w8 (.pointer (some ⟨gq, 0, none⟩)) (ps ++ [((F : Int), (G : Int))])) := HQc.out.later hbn
                        have B5n : Hid (Below w.heap.size w w8) := below_step B5.out hbn
                        clear hbn HPc HQc B5
                        have HPc := HPcn
                        have HQc := HQcn
                        have B5 := B5n
                        clear HPcn HQcn B5n
                        rw [Hy.out]
                        go_wp2
                        go_roundw
                        case rel => exact ⟨k + 1, by omega, by go_num, HPc.out, HQc.out, B5.out⟩
                        case measure => simp [intOf]; omega
                    | false =>
                      have ek : decide (k = G) = false := by simp at hkG ⊢; omega
                      cases hgk : abB ps (G : Int) (k : Int) with
                      | true =>
                        have Hgk := hidP hgk
                        cases hy : abB ps (i : Int) (k : Int) with
                        | true =>
                          have Hy := hidP hy
                          have Hm : Hid (abB (ps ++ [((F : Int), (G : Int))]) (i : Int) (k : Int) = true) := by rw [hm, hy, ei, ek, Hgk.out]; rfl
                          clear hy hm
                          go_wp2_with fail
                          refine (above_any ps (.pointer (some ⟨gp, 0, none⟩)) (G : Int) (k : Int) wr HPc.out).mono ?_
                          rintro e w7 ⟨rfl, hbn⟩
                          have HPcn : Hid (Pc w7 (.pointer (some ⟨gp, 0, none⟩)) ps) := HPc.out.later hbn
                          have HQcn : Hid (Pc w7 (.pointer (some ⟨gq, 0, none⟩)) (ps ++ [((F : Int), (G : Int))])) := HQc.out.later hbn
                          have B5n : Hid (Below w.heap.size w w7) := below_step B5.out hbn
                          clear hbn HPc HQc B5
                          have HPc := HPcn
                          have HQc := HQcn
                          have B5 := B5n
                          clear HPcn HQcn B5n
                          rw [Hgk.out]
                          go_wp2_with fail
                          refine (above_any (ps ++ [((F : Int), (G : Int))]) (.pointer (some ⟨gq, 0, none⟩)) (i : Int) (k : Int) w7 HQc.out).mono ?_
                          rintro e w8 ⟨rfl, hbn⟩
                          have HPcn : Hid (Pc w8 (.pointer (some ⟨gp, 0, none⟩)) ps) := HPc.out.later hbn
                          have HQcn : Hid (Pc w8 (.pointer (some ⟨gq, 0, none⟩)) (ps ++ [((F : Int), (G : Int))])) := HQc.out.later hbn
                          have B5n : Hid (Below w.heap.size w w8) := below_step B5.out hbn
                          clear hbn HPc HQc B5
                          have HPc := HPcn
                          have HQc := HQcn
                          have B5 := B5n
                          clear HPcn HQcn B5n
                          rw [Hm.out]
                          go_wp2_with fail
                          refine (above_any ps (.pointer (some ⟨gp, 0, none⟩)) (i : Int) (k : Int) w8 HPc.out).mono ?_
                          rintro e w9 ⟨rfl, hbn⟩
                          have HPcn : Hid (Pc w9 (.pointer (some ⟨gp, 0, none⟩)) ps) := HPc.out.later hbn
                          have HQcn : Hid (Pc w9 (.pointer (some ⟨gq, 0, none⟩)) (ps ++ [((F : Int), (G : Int))])) := HQc.out.later hbn
                          have B5n : Hid (Below w.heap.size w w9) := below_step B5.out hbn
                          clear hbn HPc HQc B5
                          have HPc := HPcn
                          have HQc := HQcn
                          have B5 := B5n
                          clear HPcn HQcn B5n
                          rw [Hy.out]
                          go_wp2
                          go_roundw
                          case rel => exact ⟨k + 1, by omega, by go_num, HPc.out, HQc.out, B5.out⟩
                          case measure => simp [intOf]; omega
                        | false =>
                          have Hy := hidP hy
                          have Hm : Hid (abB (ps ++ [((F : Int), (G : Int))]) (i : Int) (k : Int) = true) := by rw [hm, hy, ei, ek, Hgk.out]; rfl
                          clear hy hm
                          go_wp2_with fail
                          refine (above_any ps (.pointer (some ⟨gp, 0, none⟩)) (G : Int) (k : Int) wr HPc.out).mono ?_
                          rintro e w7 ⟨rfl, hbn⟩
                          have HPcn : Hid (Pc w7 (.pointer (some ⟨gp, 0, none⟩)) ps) := HPc.out.later hbn
                          have HQcn : Hid (Pc w7 (.pointer (some ⟨gq, 0, none⟩)) (ps ++ [((F : Int), (G : Int))])) := HQc.out.later hbn
                          have B5n : Hid (Below w.heap.size w w7) := below_step B5.out hbn
                          clear hbn HPc HQc B5
                          have HPc := HPcn
                          have HQc := HQcn
                          have B5 := B5n
                          clear HPcn HQcn B5n
                          rw [Hgk.out]
                          go_wp2_with fail
                          refine (above_any (ps ++ [((F : Int), (G : Int))]) (.pointer (some ⟨gq, 0, none⟩)) (i : Int) (k : Int) w7 HQc.out).mono ?_
                          rintro e w8 ⟨rfl, hbn⟩
                          have HPcn : Hid (Pc w8 (.pointer (some ⟨gp, 0, none⟩)) ps) := HPc.out.later hbn
                          have HQcn : Hid (Pc w8 (.pointer (some ⟨gq, 0, none⟩)) (ps ++ [((F : Int), (G : Int))])) := HQc.out.later hbn
                          have B5n : Hid (Below w.heap.size w w8) := below_step B5.out hbn
                          clear hbn HPc HQc B5
                          have HPc := HPcn
                          have HQc := HQcn
                          have B5 := B5n
                          clear HPcn HQcn B5n
                          rw [Hm.out]
                          go_wp2_with fail
                          refine (above_any ps (.pointer (some ⟨gp, 0, none⟩)) (i : Int) (k : Int) w8 HPc.out).mono ?_
                          rintro e w9 ⟨rfl, hbn⟩
                          have HPcn : Hid (Pc w9 (.pointer (some ⟨gp, 0, none⟩)) ps) := HPc.out.later hbn
                          have HQcn : Hid (Pc w9 (.pointer (some ⟨gq, 0, none⟩)) (ps ++ [((F : Int), (G : Int))])) := HQc.out.later hbn
                          have B5n : Hid (Below w.heap.size w w9) := below_step B5.out hbn
                          clear hbn HPc HQc B5
                          have HPc := HPcn
                          have HQc := HQcn
                          have B5 := B5n
                          clear HPcn HQcn B5n
                          rw [Hy.out]
                          go_wp2
                          go_roundw
                          case rel => exact ⟨k + 1, by omega, by go_num, HPc.out, HQc.out, B5.out⟩
                          case measure => simp [intOf]; omega
                      | false =>
                        have Hgk := hidP hgk
                        cases hy : abB ps (i : Int) (k : Int) with
                        | true =>
                          have Hy := hidP hy
                          have Hm : Hid (abB (ps ++ [((F : Int), (G : Int))]) (i : Int) (k : Int) = true) := by rw [hm, hy, ei, ek, Hgk.out]; rfl
                          clear hy hm
                          go_wp2_with fail
                          refine (above_any ps (.pointer (some ⟨gp, 0, none⟩)) (G : Int) (k : Int) wr HPc.out).mono ?_
                          rintro e w7 ⟨rfl, hbn⟩
                          have HPcn : Hid (Pc w7 (.pointer (some ⟨gp, 0, none⟩)) ps) := HPc.out.later hbn
                          have HQcn : Hid (Pc w7 (.pointer (some ⟨gq, 0, none⟩)) (ps ++ [((F : Int), (G : Int))])) := HQc.out.later hbn
                          have B5n : Hid (Below w.heap.size w w7) := below_step B5.out hbn
                          clear hbn HPc HQc B5
                          have HPc := HPcn
                          have HQc := HQcn
                          have B5 := B5n
                          clear HPcn HQcn B5n
                          rw [Hgk.out]
                          go_wp2_with fail
                          refine (above_any (ps ++ [((F : Int), (G : Int))]) (.pointer (some ⟨gq, 0, none⟩)) (i : Int) (k : Int) w7 HQc.out).mono ?_
                          rintro e w8 ⟨rfl, hbn⟩
                          have HPcn : Hid (Pc w8 (.pointer (some ⟨gp, 0, none⟩)) ps) := HPc.out.later hbn
                          have HQcn : Hid (Pc w8 (.pointer (some ⟨gq, 0, none⟩)) (ps ++ [((F : Int), (G : Int))])) := HQc.out.later hbn
                          have B5n : Hid (Below w.heap.size w w8) := below_step B5.out hbn
                          clear hbn HPc HQc B5
                          have HPc := HPcn
                          have HQc := HQcn
                          have B5 := B5n
                          clear HPcn HQcn B5n
                          rw [Hm.out]
                          go_wp2_with fail
                          refine (above_any ps (.pointer (some ⟨gp, 0, none⟩)) (i : Int) (k : Int) w8 HPc.out).mono ?_
                          rintro e w9 ⟨rfl, hbn⟩
                          have HPcn : Hid (Pc w9 (.pointer (some ⟨gp, 0, none⟩)) ps) := HPc.out.later hbn
                          have HQcn : Hid (Pc w9 (.pointer (some ⟨gq, 0, none⟩)) (ps ++ [((F : Int), (G : Int))])) := HQc.out.later hbn
                          have B5n : Hid (Below w.heap.size w w9) := below_step B5.out hbn
                          clear hbn HPc HQc B5
                          have HPc := HPcn
                          have HQc := HQcn
                          have B5 := B5n
                          clear HPcn HQcn B5n
                          rw [Hy.out]
                          go_wp2
                          go_roundw
                          case rel => exact ⟨k + 1, by omega, by go_num, HPc.out, HQc.out, B5.out⟩
                          case measure => simp [intOf]; omega
                        | false =>
                          have Hy := hidP hy
                          have Hm : Hid (abB (ps ++ [((F : Int), (G : Int))]) (i : Int) (k : Int) = false) := by rw [hm, hy, ei, ek, Hgk.out]; rfl
                          clear hy hm
                          go_wp2_with fail
                          refine (above_any ps (.pointer (some ⟨gp, 0, none⟩)) (G : Int) (k : Int) wr HPc.out).mono ?_
                          rintro e w7 ⟨rfl, hbn⟩
                          have HPcn : Hid (Pc w7 (.pointer (some ⟨gp, 0, none⟩)) ps) := HPc.out.later hbn
                          have HQcn : Hid (Pc w7 (.pointer (some ⟨gq, 0, none⟩)) (ps ++ [((F : Int), (G : Int))])) := HQc.out.later hbn
                          have B5n : Hid (Below w.heap.size w w7) := below_step B5.out hbn
                          clear hbn HPc HQc B5
                          have HPc := HPcn
                          have HQc := HQcn
                          have B5 := B5n
                          clear HPcn HQcn B5n
                          rw [Hgk.out]
                          go_wp2_with fail
                          refine (above_any (ps ++ [((F : Int), (G : Int))]) (.pointer (some ⟨gq, 0, none⟩)) (i : Int) (k : Int) w7 HQc.out).mono ?_
                          rintro e w8 ⟨rfl, hbn⟩
                          have HPcn : Hid (Pc w8 (.pointer (some ⟨gp, 0, none⟩)) ps) := HPc.out.later hbn
                          have HQcn : Hid (Pc w8 (.pointer (some ⟨gq, 0, none⟩)) (ps ++ [((F : Int), (G : Int))])) := HQc.out.later hbn
                          have B5n : Hid (Below w.heap.size w w8) := below_step B5.out hbn
                          clear hbn HPc HQc B5
                          have HPc := HPcn
                          have HQc := HQcn
                          have B5 := B5n
                          clear HPcn HQcn B5n
                          rw [Hm.out]
                          go_wp2_with fail
                          refine (above_any ps (.pointer (some ⟨gp, 0, none⟩)) (i : Int) (k : Int) w8 HPc.out).mono ?_
                          rintro e w9 ⟨rfl, hbn⟩
                          have HPcn : Hid (Pc w9 (.pointer (some ⟨gp, 0, none⟩)) ps) := HPc.out.later hbn
                          have HQcn : Hid (Pc w9 (.pointer (some ⟨gq, 0, none⟩)) (ps ++ [((F : Int), (G : Int))])) := HQc.out.later hbn
                          have B5n : Hid (Below w.heap.size w w9) := below_step B5.out hbn
                          clear hbn HPc HQc B5
                          have HPc := HPcn
                          have HQc := HQcn
                          have B5 := B5n
                          clear HPcn HQcn B5n
                          rw [Hy.out]
                          go_wp2
                          go_roundw
                          case rel => exact ⟨k + 1, by omega, by go_num, HPc.out, HQc.out, B5.out⟩
                          case measure => simp [intOf]; omega
                  | false =>
                    have ei : decide (i = F) = false := by simp at hiF ⊢; omega
                    cases hif : abB ps (i : Int) (F : Int) with
                    | false =>
                      have Hif := hidP hif
                      cases hy : abB ps (i : Int) (k : Int) with
                      | true =>
                        have Hy := hidP hy
                        have Hm : Hid (abB (ps ++ [((F : Int), (G : Int))]) (i : Int) (k : Int) = true) := by rw [hm, hy, ei, Hif.out]; rfl
                        clear hy hm
                        go_wp2_with fail
                        refine (above_any ps (.pointer (some ⟨gp, 0, none⟩)) (i : Int) (F : Int) wr HPc.out).mono ?_
                        rintro e w7 ⟨rfl, hbn⟩
                        have HPcn : Hid (Pc w7 (.pointer (some ⟨gp, 0, none⟩)) ps) := HPc.out.later hbn
                        have HQcn : Hid (Pc w7 (.pointer (some ⟨gq, 0, none⟩)) (ps ++ [((F : Int), (G : Int))])) := HQc.out.later hbn
                        have B5n : Hid (Below w.heap.size w w7) := below_step B5.out hbn
                        clear hbn HPc HQc B5
                        have HPc := HPcn
                        have HQc := HQcn
                        have B5 := B5n
                        clear HPcn HQcn B5n
                        rw [Hif.out]
                        go_wp2_with fail
                        refine (above_any (ps ++ [((F : Int), (G : Int))]) (.pointer (some ⟨gq, 0, none⟩)) (i : Int) (k : Int) w7 HQc.out).mono ?_
                        rintro e w8 ⟨rfl, hbn⟩
                        have HPcn : Hid (Pc w8 (.pointer (some ⟨gp, 0, none⟩)) ps) := HPc.out.later hbn
                        have HQcn : Hid (Pc w8 (.pointer (some ⟨gq, 0, none⟩)) (ps ++ [((F : Int), (G : Int))])) := HQc.out.later hbn
                        have B5n : Hid (Below w.heap.size w w8) := below_step B5.out hbn
                        clear hbn HPc HQc B5
                        have HPc := HPcn
                        have HQc := HQcn
                        have B5 := B5n
                        clear HPcn HQcn B5n
                        rw [Hm.out]
                        go_wp2_with fail
                        refine (above_any ps (.pointer (some ⟨gp, 0, none⟩)) (i : Int) (k : Int) w8 HPc.out).mono ?_
                        rintro e w9 ⟨rfl, hbn⟩
                        have HPcn : Hid (Pc w9 (.pointer (some ⟨gp, 0, none⟩)) ps) := HPc.out.later hbn
                        have HQcn : Hid (Pc w9 (.pointer (some ⟨gq, 0, none⟩)) (ps ++ [((F : Int), (G : Int))])) := HQc.out.later hbn
                        have B5n : Hid (Below w.heap.size w w9) := below_step B5.out hbn
                        clear hbn HPc HQc B5
                        have HPc := HPcn
                        have HQc := HQcn
                        have B5 := B5n
                        clear HPcn HQcn B5n
                        rw [Hy.out]
                        go_wp2
                        go_roundw
                        case rel => exact ⟨k + 1, by omega, by go_num, HPc.out, HQc.out, B5.out⟩
                        case measure => simp [intOf]; omega
                      | false =>
                        have Hy := hidP hy
                        have Hm : Hid (abB (ps ++ [((F : Int), (G : Int))]) (i : Int) (k : Int) = false) := by rw [hm, hy, ei, Hif.out]; rfl
                        clear hy hm
                        go_wp2_with fail
                        refine (above_any ps (.pointer (some ⟨gp, 0, none⟩)) (i : Int) (F : Int) wr HPc.out).mono ?_
                        rintro e w7 ⟨rfl, hbn⟩
                        have HPcn : Hid (Pc w7 (.pointer (some ⟨gp, 0, none⟩)) ps) := HPc.out.later hbn
                        have HQcn : Hid (Pc w7 (.pointer (some ⟨gq, 0, none⟩)) (ps ++ [((F : Int), (G : Int))])) := HQc.out.later hbn
                        have B5n : Hid (Below w.heap.size w w7) := below_step B5.out hbn
                        clear hbn HPc HQc B5
                        have HPc := HPcn
                        have HQc := HQcn
                        have B5 := B5n
                        clear HPcn HQcn B5n
                        rw [Hif.out]
                        go_wp2_with fail
                        refine (above_any (ps ++ [((F : Int), (G : Int))]) (.pointer (some ⟨gq, 0, none⟩)) (i : Int) (k : Int) w7 HQc.out).mono ?_
                        rintro e w8 ⟨rfl, hbn⟩
                        have HPcn : Hid (Pc w8 (.pointer (some ⟨gp, 0, none⟩)) ps) := HPc.out.later hbn
                        have HQcn : Hid (Pc w8 (.pointer (some ⟨gq, 0, none⟩)) (ps ++ [((F : Int), (G : Int))])) := HQc.out.later hbn
                        have B5n : Hid (Below w.heap.size w w8) := below_step B5.out hbn
                        clear hbn HPc HQc B5
                        have HPc := HPcn
                        have HQc := HQcn
                        have B5 := B5n
                        clear HPcn HQcn B5n
                        rw [Hm.out]
                        go_wp2_with fail
                        refine (above_any ps (.pointer (some ⟨gp, 0, none⟩)) (i : Int) (k : Int) w8 HPc.out).mono ?_
                        rintro e w9 ⟨rfl, hbn⟩
                        have HPcn : Hid (Pc w9 (.pointer (some ⟨gp, 0, none⟩)) ps) := HPc.out.later hbn
                        have HQcn : Hid (Pc w9 (.pointer (some ⟨gq, 0, none⟩)) (ps ++ [((F : Int), (G : Int))])) := HQc.out.later hbn
                        have B5n : Hid (Below w.heap.size w w9) := below_step B5.out hbn
                        clear hbn HPc HQc B5
                        have HPc := HPcn
                        have HQc := HQcn
                        have B5 := B5n
                        clear HPcn HQcn B5n
                        rw [Hy.out]
                        go_wp2
                        go_roundw
                        case rel => exact ⟨k + 1, by omega, by go_num, HPc.out, HQc.out, B5.out⟩
                        case measure => simp [intOf]; omega
                    | true =>
                      have Hif := hidP hif
                      cases hkG : ((k : Int) == (G : Int)) with
                      | true =>
                        have ek : decide (k = G) = true := by simp at hkG ⊢; omega
                        cases hy : abB ps (i : Int) (k : Int) with
                        | true =>
                          have Hy := hidP hy
                          have Hm : Hid (abB (ps ++ [((F : Int), (G : Int))]) (i : Int) (k : Int) = true) := by rw [hm, hy, ei, Hif.out, ek]; rfl
                          clear hy hm
                          go_wp2_with fail
                          refine (above_any ps (.pointer (some ⟨gp, 0, none⟩)) (i : Int) (F : Int) wr HPc.out).mono ?_
                          rintro e w7 ⟨rfl, hbn⟩
                          have HPcn : Hid (Pc w7 (.pointer (some ⟨gp, 0, none⟩)) ps) := HPc.out.later hbn
                          have HQcn : Hid (Pc w7 (.pointer (some ⟨gq, 0, none⟩)) (ps ++ [((F : Int), (G : Int))])) := HQc.out.later hbn
                          have B5n : Hid (Below w.heap.size w w7) := below_step B5.out hbn
                          clear hbn HPc HQc B5
                          have HPc := HPcn
                          have HQc := HQcn
                          have B5 := B5n
                          clear HPcn HQcn B5n
                          rw [Hif.out]
                          go_wp2_with fail
                          refine (above_any (ps ++ [((F : Int), (G : Int))]) (.pointer (some ⟨gq, 0, none⟩)) (i : Int) (k : Int) w7 HQc.out).mono ?_
                          rintro e w8 ⟨rfl, hbn⟩
                          have HPcn : Hid (Pc w8 (.pointer (some ⟨gp, 0, none⟩)) ps) := HPc.out.later hbn
                          have HQcn : Hid (Pc w8 (.pointer (some ⟨gq, 0, none⟩)) (ps ++ [((F : Int), (G : Int))])) := HQc.out.later hbn
                          have B5n : Hid (Below w.heap.size w w8) := below_step B5.out hbn
                          clear hbn HPc HQc B5
                          have HPc := HPcn
                          have HQc := HQcn
                          have B5 := B5n
                          clear HPcn HQcn B5n
                          rw [Hm.out]
                          go_wp2_with fail
                          refine (above_any ps (.pointer (some ⟨gp, 0, none⟩)) (i : Int) (k : Int) w8 HPc.out).mono ?_
                          rintro e w9 ⟨rfl, hbn⟩
                          have HPcn : Hid (Pc w9 (.pointer (some ⟨gp, 0, none⟩)) ps) := HPc.out.later hbn
                          have HQcn : Hid (Pc w9 (.pointer (some ⟨gq, 0, none⟩)) (ps ++ [((F : Int), (G : Int))])) := HQc.out.later hbn
                          have B5n : Hid (Below w.heap.size w w9) := below_step B5.out hbn
                          clear hbn HPc HQc B5
                          have HPc := HPcn
                          have HQc := HQcn
                          have B5 := B5n
                          clear HPcn HQcn B5n
                          rw [Hy.out]
                          go_wp2
                          go_roundw
                          case rel => exact ⟨k + 1, by omega, by go_num, HPc.out, HQc.out, B5.out⟩
                          case measure => simp [intOf]; omega
                        | false =>
                          have Hy := hidP hy
                          have Hm : Hid (abB (ps ++ [((F : Int), (G : Int))]) (i : Int) (k : Int) = true) := by rw [hm, hy, ei, Hif.out, ek]; rfl
                          clear hy hm
                          go_wp2_with fail
                          refine (above_any ps (.pointer (some ⟨gp, 0, none⟩)) (i : Int) (F : Int) wr HPc.out).mono ?_
                          rintro e w7 ⟨rfl, hbn⟩
                          have HPcn : Hid (Pc w7 (.pointer (some ⟨gp, 0, none⟩)) ps) := HPc.out.later hbn
                          have HQcn : Hid (Pc w7 (.pointer (some ⟨gq, 0, none⟩)) (ps ++ [((F : Int), (G : Int))])) := HQc.out.later hbn
                          have B5n : Hid (Below w.heap.size w w7) := below_step B5.out hbn
                          clear hbn HPc HQc B5
                          have HPc := HPcn
                          have HQc := HQcn
                          have B5 := B5n
                          clear HPcn HQcn B5n
                          rw [Hif.out]
                          go_wp2_with fail
                          refine (above_any (ps ++ [((F : Int), (G : Int))]) (.pointer (some ⟨gq, 0, none⟩)) (i : Int) (k : Int) w7 HQc.out).mono ?_
                          rintro e w8 ⟨rfl, hbn⟩
                          have HPcn : Hid (Pc w8 (.pointer (some ⟨gp, 0, none⟩)) ps) := HPc.out.later hbn
                          have HQcn : Hid (Pc w8 (.pointer (some ⟨gq, 0, none⟩)) (ps ++ [((F : Int), (G : Int))])) := HQc.out.later hbn
                          have B5n : Hid (Below w.heap.size w w8) := below_step B5.out hbn
                          clear hbn HPc HQc B5
                          have HPc := HPcn
                          have HQc := HQcn
                          have B5 := B5n
                          clear HPcn HQcn B5n
                          rw [Hm.out]
                          go_wp2_with fail
                          refine (above_any ps (.pointer (some ⟨gp, 0, none⟩)) (i : Int) (k : Int) w8 HPc.out).mono ?_
                          rintro e w9 ⟨rfl, hbn⟩
                          have HPcn : Hid (Pc w9 (.pointer (some ⟨gp, 0, none⟩)) ps) := HPc.out.later hbn
                          have HQcn : Hid (Pc w9 (.pointer (some ⟨gq, 0, none⟩)) (ps ++ [((F : Int), (G : Int))])) := HQc.out.later hbn
                          have B5n : Hid (Below w.heap.size w w9) := below_step B5.out hbn
                          clear hbn HPc HQc B5
                          have HPc := HPcn
                          have HQc := HQcn
                          have B5 := B5n
                          clear HPcn HQcn B5n
                          rw [Hy.out]
                          go_wp2
                          go_roundw
                          case rel => exact ⟨k + 1, by omega, by go_num, HPc.out, HQc.out, B5.out⟩
                          case measure => simp [intOf]; omega
                      | false =>
                        have ek : decide (k = G) = false := by simp at hkG ⊢; omega
                        cases hgk : abB ps (G : Int) (k : Int) with
                        | true =>
                          have Hgk := hidP hgk
                          cases hy : abB ps (i : Int) (k : Int) with
                          | true =>
                            have Hy := hidP hy
                            have Hm : Hid (abB (ps ++ [((F : Int), (G : Int))]) (i : Int) (k : Int) = true) := by rw [hm, hy, ei, Hif.out, ek, Hgk.out]; rfl
                            clear hy hm
                            go_wp2_with fail
                            refine (above_any ps (.pointer (some ⟨gp, 0, none⟩)) (i : Int) (F : Int) wr HPc.out).mono ?_
                            rintro e w7 ⟨rfl, hbn⟩
                            have HPcn : Hid (Pc w7 (.pointer (some ⟨gp, 0, none⟩)) ps) := HPc.out.later hbn
                            have HQcn : Hid (Pc w7 (.pointer (some ⟨gq, 0, none⟩)) (ps ++ [((F : Int), (G : Int))])) := HQc.out.later hbn
                            have B5n : Hid (Below w.heap.size w w7) := below_step B5.out hbn
                            clear hbn HPc HQc B5
                            have HPc := HPcn
                            have HQc := HQcn
                            have B5 := B5n
                            clear HPcn HQcn B5n
                            rw [Hif.out]
                            go_wp2_with fail
                            refine (above_any ps (.pointer (some ⟨gp, 0, none⟩)) (G : Int) (k : Int) w7 HPc.out).mono ?_
                            rintro e w8 ⟨rfl, hbn⟩
                            have HPcn : Hid (Pc w8 (.pointer (some ⟨gp, 0, none⟩)) ps) := HPc.out.later hbn
                            have HQcn : Hid (Pc w8 (.pointer (some ⟨gq, 0, none⟩)) (ps ++ [((F : Int), (G : Int))])) := HQc.out.later hbn
                            have B5n : Hid (Below w.heap.size w w8) := below_step B5.out hbn
                            clear hbn HPc HQc B5
                            have HPc := HPcn
                            have HQc := HQcn
                            have B5 := B5n
                            clear HPcn HQcn B5n
                            rw [Hgk.out]
                            go_wp2_with fail
                            refine (above_any (ps ++ [((F : Int), (G : Int))]) (.pointer (some ⟨gq, 0, none⟩)) (i : Int) (k : Int) w8 HQc.out).mono ?_
                            rintro e w9 ⟨rfl, hbn⟩
                            have HPcn : Hid (Pc w9 (.pointer (some ⟨gp, 0, none⟩)) ps) := HPc.out.later hbn
                            have HQcn : Hid (Pc w9 (.pointer (some ⟨gq, 0, none⟩)) (ps ++ [((F : Int), (G : Int))])) := HQc.out.later hbn
                            have B5n : Hid (Below w.heap.size w w9) := below_step B5.out hbn
                            clear hbn HPc HQc B5
                            have HPc := HPcn
                            have HQc := HQcn
                            have B5 := B5n
                            clear HPcn HQcn B5n
                            rw [Hm.out]
                            go_wp2_with fail
                            refine (above_any ps (.pointer (some ⟨gp, 0, none⟩)) (i : Int) (k : Int) w9 HPc.out).mono ?_
                            rintro e w10 ⟨rfl, hbn⟩
                            have HPcn : Hid (Pc w10 (.pointer (some ⟨gp, 0, none⟩)) ps) := HPc.out.later hbn
                            have HQcn : Hid (Pc w10 (.pointer (some ⟨gq, 0, none⟩)) (ps ++ [((F : Int), (G : Int))])) := HQc.out.later hbn
                            have B5n : Hid (Below w.heap.size w w10) := below_step B5.out hbn
                            clear hbn HPc HQc B5
                            have HPc := HPcn
                            have HQc := HQcn
                            have B5 := B5n
                            clear HPcn HQcn B5n
                            rw [Hy.out]
                            go_wp2
                            go_roundw
                            case rel => exact ⟨k + 1, by omega, by go_num, HPc.out, HQc.out, B5.out⟩
                            case measure => simp [intOf]; omega
                          | false =>
                            have Hy := hidP hy
                            have Hm : Hid (abB (ps ++ [((F : Int), (G : Int))]) (i : Int) (k : Int) = true) := by rw [hm, hy, ei, Hif.out, ek, Hgk.out]; rfl
                            clear hy hm
                            go_wp2_with fail
                            refine (above_any ps (.pointer (some ⟨gp, 0, none⟩)) (i : Int) (F : Int) wr HPc.out).mono ?_
                            rintro e w7 ⟨rfl, hbn⟩
                            have HPcn : Hid (Pc w7 (.pointer (some ⟨gp, 0, none⟩)) ps) := HPc.out.later hbn
                            have HQcn : Hid (Pc w7 (.pointer (some ⟨gq, 0, none⟩)) (ps ++ [((F : Int), (G : Int))])) := HQc.out.later hbn
                            have B5n : Hid (Below w.heap.size w w7) := below_step B5.out hbn
                            clear hbn HPc HQc B5
                            have HPc := HPcn
                            have HQc := HQcn
                            have B5 := B5n
                            clear HPcn HQcn B5n
                            rw [Hif.out]
                            go_wp2_with fail
                            refine (above_any ps (.pointer (some ⟨gp, 0, none⟩)) (G : Int) (k : Int) w7 HPc.out).mono ?_
                            rintro e w8 ⟨rfl, hbn⟩
                            have HPcn : Hid (Pc w8 (.pointer (some ⟨gp, 0, none⟩)) ps) := HPc.out.later hbn
                            have HQcn : Hid (Pc w8 (.pointer (some ⟨gq, 0, none⟩)) (ps ++ [((F : Int), (G : Int))])) := HQc.out.later hbn
                            have B5n : Hid (Below w.heap.size w w8) := below_step B5.out hbn
                            clear hbn HPc HQc B5
                            have HPc := HPcn
                            have HQc := HQcn
                            have B5 := B5n
                            clear HPcn HQcn B5n
                            rw [Hgk.out]
                            go_wp2_with fail
                            refine (above_any (ps ++ [((F : Int), (G : Int))]) (.pointer (some ⟨gq, 0, none⟩)) (i : Int) (k : Int) w8 HQc.out).mono ?_
                            rintro e w9 ⟨rfl, hbn⟩
                            have HPcn : Hid (Pc w9 (.pointer (some ⟨gp, 0, none⟩)) ps) := HPc.out.later hbn
                            have HQcn : Hid (Pc w9 (.pointer (some ⟨gq, 0, none⟩)) (ps ++ [((F : Int), (G : Int))])) := HQc.out.later hbn
                            have B5n : Hid (Below w.heap.size w w9) := below_step B5.out hbn
                            clear hbn HPc HQc B5
                            have HPc := HPcn
                            have HQc := HQcn
                            have B5 := B5n
                            clear HPcn HQcn B5n
                            rw [Hm.out]
                            go_wp2_with fail
                            refine (above_any ps (.pointer (some ⟨gp, 0, none⟩)) (i : Int) (k : Int) w9 HPc.out).mono ?_
                            rintro e w10 ⟨rfl, hbn⟩
                            have HPcn : Hid (Pc w10 (.pointer (some ⟨gp, 0, none⟩)) ps) := HPc.out.later hbn
                            have HQcn : Hid (Pc w10 (.pointer (some ⟨gq, 0, none⟩)) (ps ++ [((F : Int), (G : Int))])) := HQc.out.later hbn
                            have B5n : Hid (Below w.heap.size w w10) := below_step B5.out hbn
                            clear hbn HPc HQc B5
                            have HPc := HPcn
                            have HQc := HQcn
                            have B5 := B5n
                            clear HPcn HQcn B5n
                            rw [Hy.out]
                            go_wp2
                            go_roundw
                            case rel => exact ⟨k + 1, by omega, by go_num, HPc.out, HQc.out, B5.out⟩
                            case measure => simp [intOf]; omega
                        | false =>
                          have Hgk := hidP hgk
                          cases hy : abB ps (i : Int) (k : Int) with
                          | true =>
                            have Hy := hidP hy
                            have Hm : Hid (abB (ps ++ [((F : Int), (G : Int))]) (i : Int) (k : Int) = true) := by rw [hm, hy, ei, Hif.out, ek, Hgk.out]; rfl
                            clear hy hm
                            go_wp2_with fail
                            refine (above_any ps (.pointer (some ⟨gp, 0, none⟩)) (i : Int) (F : Int) wr HPc.out).mono ?_
                            rintro e w7 ⟨rfl, hbn⟩
                            have HPcn : Hid (Pc w7 (.pointer (some ⟨gp, 0, none⟩)) ps) := HPc.out.later hbn
                            have HQcn : Hid (Pc w7 (.pointer (some ⟨gq, 0, none⟩)) (ps ++ [((F : Int), (G : Int))])) := HQc.out.later hbn
                            have B5n : Hid (Below w.heap.size w w7) := below_step B5.out hbn
                            clear hbn HPc HQc B5
                            have HPc := HPcn
                            have HQc := HQcn
                            have B5 := B5n
                            clear HPcn HQcn B5n
                            rw [Hif.out]
                            go_wp2_with fail
                            refine (above_any ps (.pointer (some ⟨gp, 0, none⟩)) (G : Int) (k : Int) w7 HPc.out).mono ?_
                            rintro e w8 ⟨rfl, hbn⟩
                            have HPcn : Hid (Pc w8 (.pointer (some ⟨gp, 0, none⟩)) ps) := HPc.out.later hbn
                            have HQcn : Hid (Pc w8 (.pointer (some ⟨gq, 0, none⟩)) (ps ++ [((F : Int), (G : Int))])) := HQc.out.later hbn
                            have B5n : Hid (Below w.heap.size w w8) := below_step B5.out hbn
                            clear hbn HPc HQc B5
                            have HPc := HPcn
                            have HQc := HQcn
                            have B5 := B5n
                            clear HPcn HQcn B5n
                            rw [Hgk.out]
                            go_wp2_with fail
                            refine (above_any (ps ++ [((F : Int), (G : Int))]) (.pointer (some ⟨gq, 0, none⟩)) (i : Int) (k : Int) w8 HQc.out).mono ?_
                            rintro e w9 ⟨rfl, hbn⟩
                            have HPcn : Hid (Pc w9 (.pointer (some ⟨gp, 0, none⟩)) ps) := HPc.out.later hbn
                            have HQcn : Hid (Pc w9 (.pointer (some ⟨gq, 0, none⟩)) (ps ++ [((F : Int), (G : Int))])) := HQc.out.later hbn
                            have B5n : Hid (Below w.heap.size w w9) := below_step B5.out hbn
                            clear hbn HPc HQc B5
                            have HPc := HPcn
                            have HQc := HQcn
                            have B5 := B5n
                            clear HPcn HQcn B5n
                            rw [Hm.out]
                            go_wp2_with fail
                            refine (above_any ps (.pointer (some ⟨gp, 0, none⟩)) (i : Int) (k : Int) w9 HPc.out).mono ?_
                            rintro e w10 ⟨rfl, hbn⟩
                            have HPcn : Hid (Pc w10 (.pointer (some ⟨gp, 0, none⟩)) ps) := HPc.out.later hbn
                            have HQcn : Hid (Pc w10 (.pointer (some ⟨gq, 0, none⟩)) (ps ++ [((F : Int), (G : Int))])) := HQc.out.later hbn
                            have B5n : Hid (Below w.heap.size w w10) := below_step B5.out hbn
                            clear hbn HPc HQc B5
                            have HPc := HPcn
                            have HQc := HQcn
                            have B5 := B5n
                            clear HPcn HQcn B5n
                            rw [Hy.out]
                            go_wp2
                            go_roundw
                            case rel => exact ⟨k + 1, by omega, by go_num, HPc.out, HQc.out, B5.out⟩
                            case measure => simp [intOf]; omega
                          | false =>
                            have Hy := hidP hy
                            have Hm : Hid (abB (ps ++ [((F : Int), (G : Int))]) (i : Int) (k : Int) = false) := by rw [hm, hy, ei, Hif.out, ek, Hgk.out]; rfl
                            clear hy hm
                            go_wp2_with fail
                            refine (above_any ps (.pointer (some ⟨gp, 0, none⟩)) (i : Int) (F : Int) wr HPc.out).mono ?_
                            rintro e w7 ⟨rfl, hbn⟩
                            have HPcn : Hid (Pc w7 (.pointer (some ⟨gp, 0, none⟩)) ps) := HPc.out.later hbn
                            have HQcn : Hid (Pc w7 (.pointer (some ⟨gq, 0, none⟩)) (ps ++ [((F : Int), (G : Int))])) := HQc.out.later hbn
                            have B5n : Hid (Below w.heap.size w w7) := below_step B5.out hbn
                            clear hbn HPc HQc B5
                            have HPc := HPcn
                            have HQc := HQcn
                            have B5 := B5n
                            clear HPcn HQcn B5n
                            rw [Hif.out]
                            go_wp2_with fail
                            refine (above_any ps (.pointer (some ⟨gp, 0, none⟩)) (G : Int) (k : Int) w7 HPc.out).mono ?_
                            rintro e w8 ⟨rfl, hbn⟩
                            have HPcn : Hid (Pc w8 (.pointer (some ⟨gp, 0, none⟩)) ps) := HPc.out.later hbn
                            have HQcn : Hid (Pc w8 (.pointer (some ⟨gq, 0, none⟩)) (ps ++ [((F : Int), (G : Int))])) := HQc.out.later hbn
                            have B5n : Hid (Below w.heap.size w w8) := below_step B5.out hbn
                            clear hbn HPc HQc B5
                            have HPc := HPcn
                            have HQc := HQcn
                            have B5 := B5n
                            clear HPcn HQcn B5n
                            rw [Hgk.out]
                            go_wp2_with fail
                            refine (above_any (ps ++ [((F : Int), (G : Int))]) (.pointer (some ⟨gq, 0, none⟩)) (i : Int) (k : Int) w8 HQc.out).mono ?_
                            rintro e w9 ⟨rfl, hbn⟩
                            have HPcn : Hid (Pc w9 (.pointer (some ⟨gp, 0, none⟩)) ps) := HPc.out.later hbn
                            have HQcn : Hid (Pc w9 (.pointer (some ⟨gq, 0, none⟩)) (ps ++ [((F : Int), (G : Int))])) := HQc.out.later hbn
                            have B5n : Hid (Below w.heap.size w w9) := below_step B5.out hbn
                            clear hbn HPc HQc B5
                            have HPc := HPcn
                            have HQc := HQcn
                            have B5 := B5n
                            clear HPcn HQcn B5n
                            rw [Hm.out]
                            go_wp2_with fail
                            refine (above_any ps (.pointer (some ⟨gp, 0, none⟩)) (i : Int) (k : Int) w9 HPc.out).mono ?_
                            rintro e w10 ⟨rfl, hbn⟩
                            have HPcn : Hid (Pc w10 (.pointer (some ⟨gp, 0, none⟩)) ps) := HPc.out.later hbn
                            have HQcn : Hid (Pc w10 (.pointer (some ⟨gq, 0, none⟩)) (ps ++ [((F : Int), (G : Int))])) := HQc.out.later hbn
                            have B5n : Hid (Below w.heap.size w w10) := below_step B5.out hbn
                            clear hbn HPc HQc B5
                            have HPc := HPcn
                            have HQc := HQcn
                            have B5 := B5n
                            clear HPcn HQcn B5n
                            rw [Hy.out]
                            go_wp2
                            go_roundw
                            case rel => exact ⟨k + 1, by omega, by go_num, HPc.out, HQc.out, B5.out⟩
                            case measure => simp [intOf]; omega
                · have hk3 : decide ((k : Int) < n) = false := by simp; omega
                  go_wp2
                  go_roundw
                  case rel => exact ⟨i + 1, by omega, by go_num, HPc.out, HQc.out, B5.out⟩
                  case measure => simp [intOf]; omega
            · have hi3 : decide ((i : Int) < n) = false := by simp; omega
              go_wp2
              go_ret
              exact ⟨rfl, B5.out⟩
    · obtain ⟨_, rfl⟩ := hc5.err (closeE_more_sym H0.out hin) (by decide)
      have HN := hidP hin
      clear hc5 hin
      by_cases q1 : f < 0
      · go_wp2
        go_ret
        exact ⟨rfl, B5.out⟩
      have q1b : 0 ≤ f := by omega
      by_cases q2 : n ≤ f
      · go_wp2
        go_ret
        exact ⟨rfl, B5.out⟩
      have q2b : f < n := by omega
      by_cases q3 : g < 0
      · go_wp2
        go_ret
        exact ⟨rfl, B5.out⟩
      have q3b : 0 ≤ g := by omega
      by_cases q4 : n ≤ g
      · go_wp2
        go_ret
        exact ⟨rfl, B5.out⟩
      exact absurd ⟨q1b, q2b, q3b, by omega⟩ HN.out
  · obtain ⟨_, rfl⟩ := HC.out.err rfl h0
    have hne := closeE_more (x := (f, g)) h0
    generalize closeE n ps = c at h0 ⊢
    go_wp2_with (first
      | fail
      | (at_builtin; refine wpList_append_runP rfl _ _ _ rfl _ _ rfl rfl HR3.out ?_)
      | (at_builtin; refine wpList_append_runP rfl _ _ _ rfl _ _ rfl rfl HR4.out ?_))
    refine (close_any n _ (ps ++ [(f, g)]) w4 HO.out).mono ?_
    intro e w5 hc5
    have B5 : Hid (Below w.heap.size w w5) := below_step (below_step B2.out B4.out) hc5.1
    obtain ⟨_, rfl⟩ := hc5.err rfl hne
    generalize closeE n (ps ++ [(f, g)]) = c2 at hne ⊢
    clear hc5 HR3 HR4
    go_wp2
    go_ret
    exact ⟨ret1b (by simp [h0, hne]), B5.out⟩

end Go.Proofs.Ytagndlcpcggmpaa
