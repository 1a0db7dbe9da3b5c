/- Texts of the proof, one behind the other. -/
import Derived.Test.YtmokokhhheonoaaOwn6
import Derived.Test.YtmokokhhheonoaaOwn2
/- Rows of one's own that are joined one by one; copied of layer 14's law file; the document's Parts. -/
namespace Go.Proofs.Ytmokokhhheonoaa
open Go.RowKit Go.Maps Go.BigFrame

structure Rw14 (w0 w : World) (v : Value) (vs : List Value) (l : List (List Int)) : Prop where
  bel : Below w0.heap.size w0 w
  row : w.ownsRow w0.heap.size 26 1 v l.length vs
  len : vs.length = l.length
  own : Owns w w0.heap.size (vs.zip l)

theorem Rw14.later {w0 w w' : World} {v : Value} {vs : List Value} {l : List (List Int)} (h : Rw14 w0 w v vs l) (hb : Below w.heap.size w w') : Rw14 w0 w' v vs l :=
  ⟨below_step h.bel hb, ownsRow_later h.row hb, h.len, h.own.later hb⟩

theorem Rw14.owr {w0 w : World} {v : Value} {vs : List Value} {l : List (List Int)} (h : Rw14 w0 w v vs l) : OwR w w0.heap.size vs l :=
  ⟨h.len, fun j u x hu hx => h.own.own j u x (List.getElem?_zip_eq_some.2 ⟨hu, hx⟩)⟩

theorem Rw14.rs {w0 w : World} {v : Value} {vs : List Value} {l : List (List Int)} (h : Rw14 w0 w v vs l) (hl : ∀ t ∈ l, t.length * 8 ≤ 140737488351232) : Rs w v l := rs_of_own h.row h.owr hl

theorem Rw14.shape {w0 w : World} {v : Value} {vs : List Value} {l : List (List Int)} (h : Rw14 w0 w v vs l) : ∃ ao c, v = .slice ao l.length c ∧ l.length ≤ c ∧ c ≤ maxLen := by
  rcases h.row.2 with ⟨rfl, h0⟩ | ⟨g, cap, cur, rfl, _, _, hc, hm, _⟩
  · exact ⟨none, 0, by rw [h0], by omega, by simp [maxLen]⟩
  · exact ⟨_, cap, rfl, hc, hm⟩

theorem Rw14.new (w : World) : Rw14 w (w.alloc (.cells #[] 26)) (.slice (some ⟨w.heap.size, 0, none⟩) 0 0) [] [] :=
  ⟨below_alloc _, empty_row _ (Nat.le_refl _), rfl, ⟨fun i v xs hi => by simp at hi, fun i j v u xs ys _ hi _ => by simp at hi⟩⟩

/-- A row more. -/
theorem Rw14.push (ty : TypeId) {w0 w w1 : World} {v u : Value} {vs : List Value} {l : List (List Int)} {t : List Int} (h : Rw14 w0 w v vs l) (hb1 : Below w.heap.size w w1) (hu : OwI w1 w.heap.size u t) (hl : (l.length + 1) * 24 ≤ 140737488355328) :
    ∃ v' w', (Builtin.append_ #[22, 22] ty #[v, .slice (some ⟨w1.heap.size, 0, none⟩) 1 1]).run Try.prog (w1.alloc (.cells #[u] 26)) = .ok v' w' ∧ Rw14 w0 w' v' (vs ++ [u]) (l ++ [t]) := by
  have h1 := h.later hb1
  obtain ⟨ao, cap, hv, _⟩ := hu.shape
  obtain ⟨v', w', hr, h2, h3⟩ := join_row ty h1.row h1.bel.size hl (show u.oneCell' = true by rw [hv]; rfl)
  have h4 := h1.later (below_alloc (.cells #[u] 26))
  have hO := ((h.own.snoc hb1 hu h.bel.size).later (below_alloc (.cells #[u] 26))).keptR h3 h4.row (by decide)
  have hB : Below w0.heap.size w0 w' := h4.bel.grown h3 h4.bel.size (fun k hk => own_blk h4.row hk)
  refine ⟨v', w', hr, hB, by simpa using h2, by simp [h.len], ?_⟩
  rw [List.zip_append h.len]
  exact hO

set_option maxRecDepth 100000 in
set_option maxHeartbeats 3200000 in
theorem copied14_any (v : Value) (G : List (List Int)) (w : World) (h : Rs w v G) (hn : G.length ≤ 4096) :
    Calls Try.prog 10 #[v] w fun e w' => ∃ v' vs', e = .returned v' ∧ Rw14 w w' v' vs' G := by
  obtain ⟨ao, cap, rfl, hao, hca, _⟩ := Row.flat h
  unfold maxLen at hca
  have HG := hid h
  have HSm := hid h.small
  clear h
  have HN0 := hid (Rw14.new w)
  obtain ⟨W0, hW0⟩ : ∃ X, X = w.alloc (.cells #[] 26) := ⟨_, rfl⟩
  rw [← hW0] at HN0
  go_enter Try.func10, Try.ntmps10
  go_wp2
  rw [← hW0]
  go_loopw [3, 4] (fun t i wr => ∃ (k : Nat) (vs : List Value), k ≤ G.length ∧ i = .int .i64 k ∧ Rw14 w wr t vs (G.take k)) (fun _ i _ => G.length - (intOf i).toNat)
  case atStart => exact ⟨0, [], Nat.zero_le _, rfl, HN0.out⟩
  case round =>
    clear HN0 hW0
    obtain ⟨i, vs, hi, rfl, hrw⟩ := hrel
    have HT := hid hrw
    obtain ⟨ta, tc, rfl, htc1, htc2⟩ := hrw.shape
    unfold maxLen at htc2
    clear hrw
    by_cases hlt : i < G.length
    · as_aux_lemma =>
        have hdi : decide ((i : Int) < (G.length : Int)) = true := by simpa using hlt
        have hwi : IntKind.i64.wrap ((i : Int) + 1) = ((i + 1 : Nat) : Int) := by rw [IntWalk.i64_in _ ⟨by omega, by omega⟩]; omega
        obtain ⟨wb, hwb⟩ : ∃ X, X = wr := ⟨_, rfl⟩
        subst hwb
        obtain ⟨w2, hw2⟩ : ∃ X, X = wb.alloc (.cells #[] 3) := ⟨_, rfl⟩
        have hb2 : Below wb.heap.size wb w2 := by rw [hw2]; exact below_alloc _
        have ho2 : OwI w2 wb.heap.size (.slice (some ⟨wb.heap.size, 0, none⟩) 0 0) [] := ⟨fun k x hk => by simp at hk, by rw [hw2]; exact empty_ints wb (Nat.le_refl _)⟩
        obtain ⟨g1, o1, xa, es, xc, rfl, hes, hx2, hx3, hx4⟩ := (HG.out.kp (Kp.of_below (below_step HT.out.bel hb2))).at hlt
        have hle := HSm.out es (List.mem_of_getElem? hes)
        obtain ⟨u, w3, hr3, ho3, hg3⟩ := join_ints 26 ho2 hx3 hb2.size (by simp; omega)
        rw [List.nil_append] at ho3
        have hb3 : Below wb.heap.size wb w3 := hb2.grown hg3 hb2.size (fun j hj => own_blk ho2.2 hj)
        have hpu := HT.out.push 22 hb3 ho3 (by rw [List.length_take]; omega)
        rw [List.length_take, Nat.min_eq_left hi, ← take_get hes] at hpu
        obtain ⟨v4, w4, hr4, hT4⟩ := hpu
        obtain ⟨ua, uc, hu, _⟩ := ho3.shape
        subst hu
        obtain ⟨va, vc, hv4, _⟩ := hT4.shape
        subst hv4
        have HR3 := hid hr3
        have HR4 := hid hr4
        have HT4 := hid hT4
        have hx2' : (wb.alloc (.cells #[] 3)).cell? ⟨g1, o1 + i, none⟩ = some (.slice xa es.length xc) := by rw [← hw2]; exact hx2
        clear hr3 hr4 hT4 ho3 hg3 hb3 hx3 hx4 hb2 ho2 hle hes hx2
        rw [hw2] at HR3
        clear hw2
        rw [List.length_take, Nat.min_eq_left hi] at *
        go_wp2_with (first
          | (at_builtin; refine wpList_append_run rfl _ _ _ rfl _ _ rfl rfl HR3.out ?_)
          | (at_builtin; refine wpList_append_run rfl _ _ _ rfl _ _ rfl rfl HR4.out ?_))
        go_roundw
        case rel => exact ⟨i + 1, _, hlt, by go_num, HT4.out⟩
        case measure => simp only [intOf]; omega
    · as_aux_lemma =>
        have hie : i = G.length := by omega
        have hdi : decide ((i : Int) < (G.length : Int)) = false := by simpa using hlt
        have HT2 : Hid (Rw14 w wr (.slice ta (G.take i).length tc) vs G) := by have h9 := HT.out; rw [hie, List.take_length] at h9 ⊢; exact h9
        clear hie
        go_wp2
        go_ret
        exact ⟨_, _, rfl, HT2.out⟩

/-- The nodes below k that go round with i. -/
def parK (G : List (List Int)) (i k : Nat) : List Nat := (List.range k).filter fun x => wayB G i x && wayB G x i

theorem parK_yes {G : List (List Int)} {i k : Nat} (h : (wayB G i k && wayB G k i) = true) : parK G i (k + 1) = parK G i k ++ [k] := by
  unfold parK
  rw [List.range_succ, List.filter_append, List.filter_cons, if_pos h, List.filter_nil]

theorem parK_no {G : List (List Int)} {i k : Nat} (h : (wayB G i k && wayB G k i) = false) : parK G i (k + 1) = parK G i k := by
  unfold parK
  rw [List.range_succ, List.filter_append, List.filter_cons, if_neg (by rw [h]; simp), List.filter_nil, List.append_nil]

theorem parK_len (G : List (List Int)) (i k : Nat) : (parK G i k).length ≤ k := by
  have := List.length_filter_le (fun x => wayB G i x && wayB G x i) (List.range k)
  rw [List.length_range] at this
  exact this

theorem parts_yes {G : List (List Int)} {i : Nat} (h : (partB G i).head? = some i) : partsB G (i + 1) = partsB G i ++ [partB G i] := by
  unfold partsB
  rw [List.range_succ, List.filterMap_append, List.filterMap_cons, if_pos h, List.filterMap_nil]

theorem parts_no {G : List (List Int)} {i : Nat} (h : (partB G i).head? ≠ some i) : partsB G (i + 1) = partsB G i := by
  unfold partsB
  rw [List.range_succ, List.filterMap_append, List.filterMap_cons, if_neg h, List.filterMap_nil, List.append_nil]

theorem parts_len (G : List (List Int)) (i : Nat) : (partsB G i).length ≤ i := by
  induction i with
  | zero => simp [partsB]
  | succ i ih =>
    by_cases h : (partB G i).head? = some i
    · rw [parts_yes h, List.length_append, List.length_singleton]; omega
    · rw [parts_no h]; omega

set_option maxRecDepth 100000 in
set_option maxHeartbeats 6400000 in
theorem refParts14_any (v : Value) (G : List (List Int)) (w : World) (h : Rs w v G) (hn : G.length ≤ 200) :
    Calls Try.prog 12 #[v] w fun e w' => ∃ v' vs' w1, e = .returned v' ∧ Below w.heap.size w w1 ∧ Rw14 w1 w' v' vs' ((partsG G).map natL) := by
  obtain ⟨ao, cap, rfl, hao, hca, _⟩ := Row.flat h
  unfold maxLen at hca
  have HWy := hid (refWays14_any _ G w h hn)
  clear h
  go_enter Try.func12, Try.ntmps12
  go_wp2_with fail
  refine HWy.out.mono ?_
  rintro e w1 ⟨tv, rb, rfl, hwt⟩
  have HT := hid hwt
  have B1 := hid hwt.bel
  obtain ⟨ta, tc, rfl, htc1, htc2⟩ := hwt.shape
  unfold maxLen at htc2
  clear hwt HWy
  have HN0 := hid (Rw14.new w1)
  obtain ⟨W0, hW0⟩ : ∃ X, X = w1.alloc (.cells #[] 26) := ⟨_, rfl⟩
  rw [← hW0] at HN0
  go_wp2
  rw [← hW0]
  go_loopw [4, 5, 6, 7] (fun t i _ _ wr => ∃ (k : Nat) (vs : List Value), k ≤ G.length ∧ i = .int .i64 k ∧ Rw14 w1 wr t vs ((partsB G k).map natL)) (fun _ i _ _ _ => G.length - (intOf i).toNat)
  case atStart => exact ⟨0, [], Nat.zero_le _, rfl, HN0.out⟩
  case round =>
    clear HN0 hW0
    obtain ⟨i, vs, hi, rfl, hrw⟩ := hrel
    have HR := hid hrw
    obtain ⟨oa, oc, rfl, hoc1, hoc2⟩ := hrw.shape
    unfold maxLen at hoc2
    clear hrw
    by_cases hlt : i < G.length
    · as_aux_lemma =>
        have hdi : decide ((i : Int) < (G.length : Int)) = true := by simpa using hlt
        have hwi : IntKind.i64.wrap ((i : Int) + 1) = ((i + 1 : Nat) : Int) := by rw [IntWalk.i64_in _ ⟨by omega, by omega⟩]; omega
        obtain ⟨gr, rc', hv, hrc, _⟩ := HT.out.form (by omega)
        simp only [Value.slice.injEq, true_and] at hv
        obtain ⟨rfl, rfl⟩ := hv
        obtain ⟨wb, hwb⟩ : ∃ X, X = wr := ⟨_, rfl⟩
        subst hwb
        obtain ⟨w2, hw2⟩ : ∃ X, X = wb.alloc (.cells #[] 3) := ⟨_, rfl⟩
        have HB2 : Hid (Below wb.heap.size wb w2) := by rw [hw2]; exact below_alloc _
        have HO2 : Hid (OwI w2 wb.heap.size (.slice (some ⟨wb.heap.size, 0, none⟩) 0 0) []) := ⟨fun k x hk => by simp at hk, by rw [hw2]; exact empty_ints wb (Nat.le_refl _)⟩
        obtain ⟨M, hM⟩ : ∃ M, M = (List.map natL (partsB G i)).length := ⟨_, rfl⟩
        rw [← hM] at hoc1 HR ⊢
        have HM := hid hM
        clear hM
        go_wp2
        rw [← hw2]
        clear hw2
        go_loopw [6, 7] (fun p j wr => ∃ k : Nat, k ≤ G.length ∧ j = .int .i64 k ∧ OwI wr wb.heap.size p (natL (parK G i k)) ∧ Below wb.heap.size wb wr) (fun _ j _ => G.length - (intOf j).toNat)
        case atStart => exact ⟨0, Nat.zero_le _, rfl, HO2.out, HB2.out⟩
        case round =>
          clear HO2 HB2
          obtain ⟨k, hk, rfl, hop, hbw⟩ := hrel
          have HO := hid hop
          have HB := hid hbw
          have hpl := parK_len G i k
          obtain ⟨pa, pc, hpv, hpc1, hpc2⟩ := hop.shape
          rw [natL_len] at hpv hpc1
          subst hpv
          unfold maxLen at hpc2
          clear hop hbw
          by_cases hkl : k < G.length
          · as_aux_lemma =>
              have hdk : decide ((k : Int) < (G.length : Int)) = true := by simpa using hkl
              have hw1 : IntKind.i64.wrap ((k : Int) + 1) = ((k + 1 : Nat) : Int) := by rw [IntWalk.i64_in _ ⟨by omega, by omega⟩]; omega
              have hTw := HT.out.later (below_step HR.out.bel HB.out)
              obtain ⟨gr', rc', hv, _, hrow⟩ := hTw.form (by omega)
              cases hv
              have c1 := hrow i hlt
              have c2 := hrow k hkl
              have c3 := hTw.bit hlt hkl
              have c4 := hTw.bit hkl hlt
              clear hTw hrow
              cases h1 : wayB G i k with
              | false =>
                as_aux_lemma =>
                  rw [h1] at c3
                  have HO3 : Hid (OwI wr wb.heap.size (.slice pa (parK G i k).length pc) (natL (parK G i (k + 1)))) := by rw [parK_no (by rw [h1]; rfl)]; exact HO.out
                  clear h1 c4
                  go_wp2
                  go_roundw
                  case rel => exact ⟨k + 1, hkl, by go_num, HO3.out, HB.out⟩
                  case measure => simp only [intOf]; omega
              | true =>
                as_aux_lemma =>
                  rw [h1] at c3
                  cases h2 : wayB G k i with
                  | false =>
                    as_aux_lemma =>
                      rw [h2] at c4
                      have HO3 : Hid (OwI wr wb.heap.size (.slice pa (parK G i k).length pc) (natL (parK G i (k + 1)))) := by rw [parK_no (by rw [h2]; simp)]; exact HO.out
                      clear h1 h2
                      go_wp2
                      go_roundw
                      case rel => exact ⟨k + 1, hkl, by go_num, HO3.out, HB.out⟩
                      case measure => simp only [intOf]; omega
                  | true =>
                    as_aux_lemma =>
                      rw [h2] at c4
                      obtain ⟨v4, w4, hr4, ho4, hg4, _⟩ := join_one 26 (c := (k : Int)) HO.out (by omega) (by omega) HB.out.size (by rw [natL_len]; omega)
                      rw [← natL_snoc, ← parK_yes (by rw [h1, h2]; rfl)] at ho4
                      have HB4 := hid ((below_step HB.out (below_alloc (.cells #[.int .i64 (k : Int)] 3))).grown hg4 (Nat.le_trans HB.out.size (below_alloc _).size) (fun j hj => own_blk HO.out.2 hj))
                      have HR4 := hid hr4
                      have HO4 := hid ho4
                      clear hr4 ho4 hg4 h1 h2
                      go_wp2_with (first
                        | (at_builtin; refine wpList_append_run rfl _ _ _ rfl _ _ rfl rfl HR4.out ?_))
                      go_roundw
                      case rel => exact ⟨k + 1, hkl, by go_num, HO4.out, HB4.out⟩
                      case measure => simp only [intOf]; omega
          · as_aux_lemma =>
              have hke : k = G.length := by omega
              have hdk : decide ((k : Int) < (G.length : Int)) = false := by simpa using hkl
              have hPe : parK G i k = partB G i := by rw [hke]; rfl
              rw [hPe] at HO hpc1 hpl ⊢
              clear hPe hke
              by_cases hh : (partB G i).head? = some i
              · as_aux_lemma =>
                  have HM1 : Hid (partsB G (i + 1) = partsB G i ++ [partB G i]) := parts_yes hh
                  have hpl2 := parts_len G i
                  have hpu := HR.out.push 22 HB.out HO.out (by rw [List.length_map]; omega)
                  obtain ⟨v4, w4, hr4, hT4⟩ := hpu
                  have HT4 : Hid (Rw14 w1 w4 v4 (vs ++ [.slice pa (partB G i).length pc]) ((partsB G (i + 1)).map natL)) := by rw [HM1.out, List.map_append]; exact hT4
                  have HR4 := hid hr4
                  obtain ⟨P, hP⟩ : ∃ P, P = partB G i := ⟨_, rfl⟩
                  rw [← hP] at HO hpc1 hpl hh HR4 ⊢
                  have hlen : 0 < P.length := List.length_pos_iff.2 (by intro e; rw [e] at hh; cases hh)
                  have hd0 : decide (0 < P.length) = true := by simpa using hlen
                  have h0 : (natL P)[0]? = some (i : Int) := natL_get (by rw [← List.head?_eq_getElem?]; exact hh)
                  obtain ⟨g5, o5, t5, rfl, ht5, ht6, _, _⟩ := (show Is wr (.slice pa (natL P).length pc) (natL P) by rw [natL_len]; exact HO.out.is).at (k := 0) (by rw [natL_len]; exact hlen)
                  rw [h0] at ht5
                  cases ht5
                  rw [Nat.add_zero] at ht6
                  have hqi : ((i : Int) == (i : Int)) = true := by simp
                  have hqn : (i == i) = true := by simp
                  clear hh hP h0 hr4 hT4 HM1 HO
                  go_wp2_with (first
                    | (at_builtin; refine wpList_append_run rfl _ _ _ rfl _ _ rfl rfl HR4.out ?_))
                  go_roundw
                  case rel => exact ⟨i + 1, _, hlt, by go_num, HT4.out⟩
                  case measure => simp only [intOf]; omega
              · as_aux_lemma =>
                  have HT4 : Hid (Rw14 w1 wr (.slice oa M oc) vs ((partsB G (i + 1)).map natL)) := by rw [parts_no hh]; exact HR.out.later HB.out
                  obtain ⟨P, hP⟩ : ∃ P, P = partB G i := ⟨_, rfl⟩
                  rw [← hP] at HO hpc1 hpl hh ⊢
                  clear hP
                  by_cases hlen : 0 < P.length
                  · as_aux_lemma =>
                      have hd0 : decide (0 < P.length) = true := by simpa using hlen
                      obtain ⟨p, hp⟩ : ∃ p, P[0]? = some p := ⟨_, List.getElem?_eq_getElem hlen⟩
                      have hpi : p ≠ i := fun e => hh (by rw [List.head?_eq_getElem?, hp, e])
                      have hqi : ((p : Int) == (i : Int)) = false := by rw [beq_eq_false_iff_ne]; omega
                      have hqn : (p == i) = false := by simpa using hpi
                      have h0 : (natL P)[0]? = some (p : Int) := natL_get hp
                      obtain ⟨g5, o5, t5, rfl, ht5, ht6, _, _⟩ := (show Is wr (.slice pa (natL P).length pc) (natL P) by rw [natL_len]; exact HO.out.is).at (k := 0) (by rw [natL_len]; exact hlen)
                      rw [h0] at ht5
                      cases ht5
                      rw [Nat.add_zero] at ht6
                      clear hh hp h0 HO hpi
                      go_wp2
                      go_roundw
                      case rel => exact ⟨i + 1, _, hlt, by go_num, HT4.out⟩
                      case measure => simp only [intOf]; omega
                  · as_aux_lemma =>
                      have hd0 : decide (0 < P.length) = false := by simpa using hlen
                      clear hh HO
                      go_wp2
                      go_roundw
                      case rel => exact ⟨i + 1, _, hlt, by go_num, HT4.out⟩
                      case measure => simp only [intOf]; omega
    · as_aux_lemma =>
        have hie : i = G.length := by omega
        have hdi : decide ((i : Int) < (G.length : Int)) = false := by simpa using hlt
        have HT2 : Hid (Rw14 w1 wr (.slice oa (List.map natL (partsB G i)).length oc) vs ((partsG G).map natL)) := by have h9 := HR.out; rw [hie] at h9 ⊢; exact h9
        clear hie
        go_wp2
        go_ret
        exact ⟨_, _, _, rfl, B1.out, HT2.out⟩

end Go.Proofs.Ytmokokhhheonoaa

/- GraphParts: the parts of every graph are those of the definition; what is handed in stays, what comes out is the caller's. -/
namespace Go.Proofs.Ytmokokhhheonoaa
open Go.RowKit Go.Maps Go.BigFrame

theorem OwR.shapes14 {w w' : World} {b : Nat} {vs : List Value} {l : List (List Int)} (h : OwR w b vs l) (hb : Below w.heap.size w w') : ∀ (j : Nat) (u : Value) (x : List Int), vs[j]? = some u → l[j]? = some x → RowS w' b w.heap.size 3 u x.length := fun j u x hj hx => RowS.of (h.2 j u x hj hx).2 hb

theorem own_shape14 {w : World} {base : Nat} {e : TypeId} {s n : Nat} {v : Value} {xs : List Value} (h : w.ownsRow base e s v n xs) : ∃ ao cap, v = .slice ao n cap ∧ n ≤ cap ∧ cap ≤ maxLen := by
  rcases h.2 with ⟨rfl, hn⟩ | ⟨g, cap, cur, rfl, hb, hg, hc, hm, hs, ht⟩
  · exact ⟨none, 0, by rw [hn], by omega, by simp [maxLen]⟩
  · exact ⟨_, cap, rfl, hc, hm⟩

theorem own_spl14 {w w' : World} {b T : Nat} {e : TypeId} {s n : Nat} {v : Value} {xs : List Value} (h : w.ownsRow T e s v n xs) (hs : Spl b T w w') : w'.ownsRow T e s v n xs := by
  refine ⟨h.1, ?_⟩
  rcases h.2 with h | ⟨g, cap, cur, rfl, hb, hgg, r⟩
  · exact .inl h
  · exact .inr ⟨g, cap, cur, rfl, hb, (hs.block g (Array.getElem?_eq_some_iff.1 hgg).1 (.inr hb)).trans hgg, r⟩

theorem OwR.spl14 {w w' : World} {b T : Nat} {vs : List Value} {l : List (List Int)} (h : OwR w T vs l) (hs : Spl b T w w') : OwR w' T vs l :=
  ⟨h.1, fun j u x hj hx => ⟨(h.2 j u x hj hx).1, own_spl14 (h.2 j u x hj hx).2 hs⟩⟩

theorem below_spl14 {w w6 w' : World} {T : Nat} (h : Below w.heap.size w w6) (hs : Spl w.heap.size T w6 w') : Below w.heap.size w w' :=
  ⟨hs.os.trans h.os, hs.tape.trans h.tape, hs.output.trans h.output, Nat.le_trans h.size hs.size, fun k hk => (hs.block k (Nat.lt_of_lt_of_le hk h.size) (.inl hk)).trans (h.block k hk)⟩

theorem Spl.wide {b : Nat} {w w' : World} {w3 w35 : World} (h : Spl b w3.heap.size w w') (k : Below w3.heap.size w3 w35) : Spl b w35.heap.size w w' :=
  ⟨h.os, h.tape, h.output, h.size, fun g hg hb => h.block g hg (by have := k.size; omega), h.shape⟩

set_option maxRecDepth 100000 in
set_option maxHeartbeats 3200000 in
theorem graphParts_any (v : Value) (G : List (List Int)) (w : World) (h : Rs w v G) :
    Calls Try.prog 3 #[v] w fun e w' => e = .returned (.bool true) ∧ Below w.heap.size w w' := by
  obtain ⟨i1, hi1, hy0, hy1, hy2⟩ := info_parts info_int
  obtain ⟨ao, cap, rfl, hao, hca, _⟩ := Row.flat h
  unfold maxLen at hca
  have HL := hid h
  have HSm := hid h.small
  clear h
  go_enter Try.func3, Try.ntmps3
  go_wp2_with fail
  refine (shown14_any w).mono ?_
  rintro e w1 ⟨rfl, hb1⟩
  have HB1 := hid hb1
  clear hb1
  by_cases hbig : 200 < G.length
  · have hd : decide (200 < G.length) = true := by simpa using hbig
    go_wp2
    go_ret
    exact ⟨rfl, HB1.out⟩
  · have hd : decide (200 < G.length) = false := by simpa using hbig
    go_wp2_with fail
    refine (copied14_any _ G w1 (HL.out.kp (Kp.of_below HB1.out)) (by omega)).mono ?_
    rintro e w2 ⟨vo, vso, rfl, hcp⟩
    have HOwn : Hid (Rs w2 vo G) := hcp.rs HSm.out
    have HB2 := hid (below_step HB1.out hcp.bel)
    clear hcp
    obtain ⟨P, hP⟩ : ∃ P, P = (partsG G).map natL := ⟨_, rfl⟩
    have hPl : P.length ≤ 200 := by have := parts_len G G.length; rw [hP, List.length_map]; unfold partsG; omega
    have HPs : Hid (∀ x ∈ P, x.length ≤ 1000) := fun x hx => by
      rw [hP] at hx
      obtain ⟨y, hy, rfl⟩ := List.mem_map.1 hx
      rw [natL_len]
      obtain ⟨i, _, hk, hr⟩ := (partsB_is G).part y hy
      have := nodup_few (n := G.length) (xs := y) (hr.imp fun h => by omega) (fun x hx => (wy_lt ((hk x).1 hx).1).2)
      omega
    have HPq : Hid (∀ t ∈ P, t.length * 8 ≤ 140737488351232) := fun t ht => by have := HPs.out t ht; omega
    go_wp2_with fail
    refine (parts_any14 HOwn.out (by omega)).mono ?_
    rintro e w3 ⟨va, vs3, Ps, rfl, ho3, _, hr3, hb3, hip⟩
    rw [hip.eq, ← hP] at hr3
    rw [hip.eq, show (partsG G).length = P.length by rw [hP, List.length_map]] at ho3
    have HA3 := hid ho3
    have HV3 := hid hr3
    have HK3 := hid hb3
    have HB3 := hid (below_step HB2.out hb3)
    clear ho3 hr3 hb3 hip
    go_wp2_with fail
    refine (refParts14_any _ G w3 (HL.out.kp (Kp.of_below HB3.out)) (by omega)).mono ?_
    rintro e w4 ⟨vb, vs4, w35, rfl, hb35, hrw⟩
    rw [← hP] at hrw
    have HA4 := hid hrw
    have HK35 := hid hb35
    have HK4 := hid (below_step hb35 hrw.bel)
    have HB4 := hid (below_step HB3.out HK4.out)
    have HPe := hid hP
    clear hb35 hrw hP
    have HRa : Hid (Rs w4 va P) := Rs.kp (rs_of_own HA3.out HV3.out HPq.out) (Kp.of_below HK4.out)
    have HRb : Hid (Rs w4 vb P) := HA4.out.rs HPq.out
    go_wp2_with fail
    refine (same14_any va vb _ _ w4 HRa.out HRb.out).mono ?_
    rintro e w5 ⟨rfl, hb5⟩
    rw [decide_eq_true rfl]
    have HK5 := hid hb5
    have HB5 := hid (below_step HB4.out hb5)
    clear hb5
    go_wp2_with fail
    refine (same14_any vo _ G G w5 (HOwn.out.kp (Kp.of_below (below_step HK3.out (below_step HK4.out HK5.out)))) (HL.out.kp (Kp.of_below HB5.out))).mono ?_
    rintro e w6 ⟨rfl, hb6⟩
    rw [decide_eq_true rfl]
    have HK6 := hid (below_step HK5.out hb6)
    have HB6 := hid (below_step HB5.out hb6)
    clear hb6 HK5 HB5
    have hk36 := below_step HK4.out HK6.out
    obtain ⟨xo, xc, rfl, hxc1, hxc2⟩ := own_shape14 HA3.out
    unfold maxLen at hxc2
    have HRow : Hid (∀ (j : Nat) (u : Value) (x : List Int), vs3[j]? = some u → P[j]? = some x → RowS w6 w2.heap.size w3.heap.size 3 u x.length) := HV3.out.shapes14 hk36
    have HCells : Hid (∀ (j : Nat) (u : Value) (ga : Nat), j < P.length → xo = some ⟨ga, 0, none⟩ → vs3[j]? = some u → w6.cell? ⟨ga, j, none⟩ = some u) := fun j u ga hj e hu => by
      have h9 := ownsRow_later HA3.out hk36
      rw [e] at h9
      rw [World.ownsRow.cellAt h9 j (by omega)]
      exact hu
    have HShp : Hid (∀ ga : Nat, xo = some ⟨ga, 0, none⟩ → Shp w6 ga 26 xc ∧ w2.heap.size ≤ ga ∧ ga < w3.heap.size) := fun ga e => by
      have h9 := HA3.out
      rw [e] at h9
      rcases h9.2 with ⟨h8, _⟩ | ⟨g, cap, cur, hv, hb, hg, hc, hm, hs, _⟩
      · cases h8
      · simp only [Value.slice.injEq, Option.some.injEq, Addr.mk.injEq, and_true, true_and] at hv
        obtain ⟨rfl, rfl⟩ := hv
        have hlt := (Array.getElem?_eq_some_iff.1 hg).1
        exact ⟨⟨cur, by rw [hk36.block ga hlt]; exact hg, by omega⟩, hb, hlt⟩
    have HForm : Hid (0 < P.length → ∃ ga, xo = some ⟨ga, 0, none⟩) := fun h0 => by
      obtain ⟨g, c, hv⟩ := own_form HA3.out h0
      simp only [Value.slice.injEq] at hv
      exact ⟨g, hv.1⟩
    have HVl : Hid (vs3.length = P.length) := HV3.out.1
    have HA6 : Hid (Rw14 w35 w6 vb vs4 P) := HA4.out.later HK6.out
    have HK26 := hid (below_step HK3.out hk36)
    have HLen : Hid (∀ (j : Nat) (x : List Int), P[j]? = some x → x.length ≤ 1000) := fun j x hx => HPs.out x (List.mem_of_getElem? hx)
    clear hk36 HA3 HV3 HA4 HRa HRb HK3 HK4 HK6
    go_wp2
    go_loopw [7] (fun iv wr => ∃ i : Nat, i ≤ P.length ∧ iv = .int .i64 i ∧ Spl w2.heap.size w3.heap.size w6 wr ∧ ∀ (j : Nat) (u : Value) (ga : Nat), i ≤ j → j < P.length → xo = some ⟨ga, 0, none⟩ → vs3[j]? = some u → wr.cell? ⟨ga, j, none⟩ = some u) (fun iv _ => P.length - (intOf iv).toNat)
    case atStart => exact ⟨0, Nat.zero_le _, rfl, Spl.refl _ _ _, fun j u ga _ hj e hu => HCells.out j u ga hj e hu⟩
    case round =>
      obtain ⟨i, hi, rfl, hsp, hcs2⟩ := hrel
      have HSp := hid hsp
      have HCs := hid hcs2
      clear hsp hcs2
      by_cases hil : i < P.length
      · obtain ⟨ga, rfl⟩ := HForm.out (by omega)
        obtain ⟨hsA, hga1, hga2⟩ := HShp.out ga rfl
        have HSA := hid hsA
        obtain ⟨u, hu⟩ : ∃ u, vs3[i]? = some u := ⟨_, List.getElem?_eq_getElem (by rw [HVl.out]; exact hil)⟩
        obtain ⟨x, hx⟩ : ∃ x, P[i]? = some x := ⟨_, List.getElem?_eq_getElem hil⟩
        have hrow := HRow.out i u x hu hx
        have hxl := HLen.out i x hx
        obtain ⟨ro, rcp, rfl, hrc1, hrc2⟩ := hrow.form
        unfold maxLen at hrc2
        have y1 := HCs.out i _ ga (Nat.le_refl _) hil rfl hu
        have HRw := hid hrow
        clear hrow hu hx hsA
        generalize x.length = n1 at hxl hrc1 HRw y1
        obtain ⟨wo, hwo⟩ : ∃ X, X = wr := ⟨wr, rfl⟩
        rw [← hwo] at HSp HCs y1 ⊢
        clear hwo
        go_wp2_with fail
        go_loopw [8] (fun kv wx => ∃ k : Nat, k ≤ n1 ∧ kv = .int .i64 k ∧ Spl w2.heap.size w3.heap.size w6 wx ∧ wx.heap[ga]? = wo.heap[ga]?) (fun kv _ => n1 - (intOf kv).toNat)
        case atStart => exact ⟨0, Nat.zero_le _, rfl, HSp.out, rfl⟩
        case round =>
          obtain ⟨k, hk, rfl, hspx, hgx⟩ := hrel
          have HSx := hid hspx
          have HGx := hid hgx
          have z1 : wr.cell? ⟨ga, i, none⟩ = some (.slice ro n1 rcp) := by rw [World.cell?_of_block hgx]; exact y1
          by_cases hkn : k < n1
          · obtain ⟨g1, rfl, hg1, hg2, hsh⟩ := (HRw.out.spl hspx).at hkn
            obtain ⟨⟨u1, hu1⟩, hf1⟩ := hsh.cell (Nat.lt_of_lt_of_le hkn hrc1)
            have hne : ga ≠ g1 := (hspx.shape _ _ _ HSA.out).ne hsh (by decide)
            clear hspx hgx hsh
            go_wp2
            go_roundw
            case rel => exact ⟨k + 1, by omega, by go_num, HSx.out.setCell (.inl ⟨hg1, hg2⟩) _ _, by rw [heap_setCell_other _ _ _ _ hne]; exact HGx.out⟩
            case measure => simp [intOf]; omega
          · have hke : k = n1 := by omega
            clear hspx hgx
            obtain ⟨g4, cap4, w4', hr4, hsh4, hc4, hm4, hg4, hsp4, hk4⟩ := append_spl 26 26 3 i1 _ 8 under_ints hi1 hy0 hy1 hy2 rfl (HRw.out.spl (HSx.out.trans (Spl.below (below_alloc (.cells #[.int .i64 98] 3))))) (ad := ⟨wr.heap.size, 0, none⟩) (c := 1) (x := .int .i64 98) (by rw [cell_of_row _ _ _ _ _ _ (heap_alloc_new _ _)]; rfl) rfl (by omega) (by unfold maxLen; omega)
            obtain ⟨hs4, hgp4⟩ := after_append HSx.out HGx.out hsp4 hk4 HSA.out (by decide)
            unfold maxLen at hm4
            have HR4 := hid hr4
            have HS4 := hid hs4
            have HG4 := hid hgp4
            obtain ⟨⟨q1, hq1⟩, hq2⟩ := (hs4.shape _ _ _ HSA.out).cell (k := i) (by omega)
            have z2 := cell_old (o := .cells #[.int .i64 98] 3) z1
            have hgw : ga < wr.heap.size := World.block_lt_of_cell? _ _ z1
            clear hr4 hs4 hgp4 hsp4 hk4 hsh4 hg4
            go_wp2_with (first
              | (at_builtin; refine wpList_append_run rfl _ _ _ rfl _ _ rfl rfl HR4.out ?_))
            go_roundw
            case rel =>
              refine ⟨i + 1, by omega, by go_num, HS4.out.setCell (.inl ⟨hga1, hga2⟩) _ _, fun j u2 gb hj hjl e hu2 => ?_⟩
              cases e
              rw [World.cell?_setCell_other _ _ _ _ (by simp <;> omega), World.cell?_of_block HG4.out]
              exact HCs.out j u2 ga (by omega) hjl rfl hu2
            case measure => simp [intOf]; omega
      · have HBw := hid (below_spl14 HK26.out HSp.out)
        have HRb2 : Hid (Rs wr vb P) := rs_of_own (own_spl14 (HA6.out.row) (HSp.out.wide HK35.out)) (HA6.out.owr.spl14 (HSp.out.wide HK35.out)) HPq.out
        have HB7 := hid (below_step HB2.out HBw.out)
        clear HCs
        go_wp2_with fail
        refine (parts_any14 (HOwn.out.kp (Kp.of_below HBw.out)) (by omega)).mono ?_
        rintro e w8 ⟨v8, vs8, Ps8, rfl, hpo⟩
        have HR8 : Hid (Rs w8 v8 P) := by rw [HPe.out]; exact hpo.rs (by omega)
        have HRb8 := hid (HRb2.out.kp (Kp.of_below hpo.2.2.2.1))
        have HBw8 := hid (below_step HBw.out hpo.2.2.2.1)
        clear hpo
        go_wp2_with fail
        refine (same14_any v8 vb _ _ w8 HR8.out HRb8.out).mono ?_
        rintro e w9 ⟨rfl, hb9⟩
        rw [decide_eq_true rfl]
        have HB9 := hid (below_step HB2.out (below_step HBw8.out hb9))
        clear hb9
        go_wp2
        go_ret
        exact ⟨rfl, HB9.out⟩

end Go.Proofs.Ytmokokhhheonoaa
