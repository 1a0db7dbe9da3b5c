/- Texts of the proof, one behind the other. -/
import Derived.Test.YtmokokhhheonoaaOwn6
/- A graph with one edge more; an edge looked for; a row of one's own made longer in its place. -/
namespace Go.Proofs.Ytmokokhhheonoaa
open Go.RowKit Go.Maps Go.BigFrame

theorem more_ed {G : List (List Int)} {f t : Nat} {r : List Int} (hr : G[f]? = some r) (ht : t < G.length) (i k : Nat) : Ed (G.set f (r ++ [(t : Int)])) i k ↔ Ed G i k ∨ (i = f ∧ k = t) := by
  have hf := (List.getElem?_eq_some_iff.1 hr).1
  unfold Ed
  rw [List.length_set]
  by_cases e : i = f
  · subst e
    rw [List.getElem?_set_self hf, hr]
    constructor
    · rintro ⟨es, h1, h2, h3⟩
      cases h1
      rcases List.mem_append.1 h2 with h2 | h2
      · exact .inl ⟨r, rfl, h2, h3⟩
      · have := List.mem_singleton.1 h2
        exact .inr ⟨rfl, by omega⟩
    · rintro (⟨es, h1, h2, h3⟩ | ⟨_, rfl⟩)
      · cases h1
        exact ⟨_, rfl, List.mem_append_left _ h2, h3⟩
      · exact ⟨_, rfl, by simp, ht⟩
  · rw [List.getElem?_set_ne (fun h => e h.symm)]
    constructor
    · exact .inl
    · rintro (h | ⟨h, _⟩)
      · exact h
      · exact absurd h e

theorem more_wy {G : List (List Int)} {f t : Nat} {r : List Int} (hr : G[f]? = some r) (ht : t < G.length) (i k : Nat) : Wy (Ed (G.set f (r ++ [(t : Int)]))) i k ↔ Wy (Ed G) i k ∨ ((i = f ∨ Wy (Ed G) i f) ∧ (t = k ∨ Wy (Ed G) t k)) := by
  have he := more_ed hr ht
  have up : ∀ {a b}, Wy (Ed G) a b → Wy (Ed (G.set f (r ++ [(t : Int)]))) a b := fun {a b} h => h.mono fun x y e => (he x y).2 (.inl e)
  constructor
  · intro h
    induction h with
    | one e =>
      rcases (he _ _).1 e with e | ⟨rfl, rfl⟩
      · exact .inl (.one e)
      · exact .inr ⟨.inl rfl, .inl rfl⟩
    | more e hw ih =>
      rcases (he _ _).1 e with e2 | ⟨rfl, rfl⟩
      · rcases ih with ih | ⟨h1, h2⟩
        · exact .inl (.more e2 ih)
        · refine .inr ⟨.inr ?_, h2⟩
          rcases h1 with rfl | h1
          · exact .one e2
          · exact .more e2 h1
      · rcases ih with ih | ⟨_, h2⟩
        · exact .inr ⟨.inl rfl, .inr ih⟩
        · exact .inr ⟨.inl rfl, h2⟩
  · rintro (h | ⟨h1, h2⟩)
    · exact up h
    · have h0 : Wy (Ed (G.set f (r ++ [(t : Int)]))) i t := by
        rcases h1 with rfl | h1
        · exact .one ((he _ _).2 (.inr ⟨rfl, rfl⟩))
        · exact (up h1).trans (.one ((he _ _).2 (.inr ⟨rfl, rfl⟩)))
      rcases h2 with rfl | h2
      · exact h0
      · exact h0.trans (up h2)

/-- Whether a way leads from i to k, with one edge more. -/
def go14 (G : List (List Int)) (f t i k : Nat) : Bool := wayB G i k || ((i == f) || wayB G i f) && ((t == k) || wayB G t k)

theorem go14_iff {G : List (List Int)} {f t i k : Nat} {r : List Int} (hr : G[f]? = some r) (ht : t < G.length) (hi : i < G.length) (hk : k < G.length) : go14 G f t i k = true ↔ Wy (Ed (G.set f (r ++ [(t : Int)]))) i k := by
  rw [more_wy hr ht]
  unfold go14
  simp only [Bool.or_eq_true, Bool.and_eq_true, beq_iff_eq, wayB_iff G hi hk, wayB_iff G hi (List.getElem?_eq_some_iff.1 hr).1, wayB_iff G ht hk]

def hm14 (G : List (List Int)) (i k : Nat) : Bool := decide (0 ≤ homeI ((partsG G).map natL) (i : Int)) && (homeI ((partsG G).map natL) (i : Int) == homeI ((partsG G).map natL) (k : Int))

theorem hm14_iff (G : List (List Int)) (i k : Nat) : hm14 G i k = true ↔ Wy (Ed G) i k ∧ Wy (Ed G) k i := by
  rw [← home_class (G := G) i k]
  unfold hm14
  simp only [Bool.and_eq_true, decide_eq_true_eq, beq_iff_eq]
  exact ⟨fun h => ⟨h.1, h.2.symm⟩, fun h => ⟨h.1, h.2.symm⟩⟩

theorem more_is {G : List (List Int)} {f t i k : Nat} {r : List Int} (hr : G[f]? = some r) (ht : t < G.length) (hi : i < G.length) (hk : k < G.length) : hm14 (G.set f (r ++ [(t : Int)])) i k = (go14 G f t i k && go14 G f t k i) := by
  rw [Bool.eq_iff_iff, hm14_iff, Bool.and_eq_true, go14_iff hr ht hi hk, go14_iff hr ht hk hi]

theorem more_was {G : List (List Int)} {f t i k : Nat} {r : List Int} (hr : G[f]? = some r) (ht : t < G.length) (h : hm14 G i k = true) : hm14 (G.set f (r ++ [(t : Int)])) i k = true := by
  rw [hm14_iff] at h ⊢
  exact ⟨(more_wy hr ht i k).2 (.inl h.1), (more_wy hr ht k i).2 (.inl h.2)⟩

theorem more_same {G : List (List Int)} {f t : Nat} {r : List Int} (hr : G[f]? = some r) (ht : t < G.length) (h : (t : Int) ∈ r) : partsG (G.set f (r ++ [(t : Int)])) = partsG G := by
  have he : ∀ i k, Ed (G.set f (r ++ [(t : Int)])) i k ↔ Ed G i k := fun i k => by
    rw [more_ed hr ht]
    constructor
    · rintro (h1 | ⟨rfl, rfl⟩)
      · exact h1
      · exact ⟨r, hr, h, ht⟩
    · exact .inl
  have hw : ∀ i k, Wy (Ed (G.set f (r ++ [(t : Int)]))) i k ↔ Wy (Ed G) i k := fun i k => ⟨fun h => h.mono fun a b e => (he a b).1 e, fun h => h.mono fun a b e => (he a b).2 e⟩
  exact ((partsB_is (G.set f (r ++ [(t : Int)]))).congr (F := Ed G) fun i k => by rw [hw, hw]).eq

/-- A number more behind one of the rows. -/
theorem Rw14.pushAt (ty : TypeId) {w0 w : World} {g n cap x : Nat} {vs : List Value} {l : List (List Int)} {u : Value} {r : List Int} {c : Int} (h : Rw14 w0 w (.slice (some ⟨g, 0, none⟩) n cap) vs l) (hv : vs[x]? = some u) (hr : l[x]? = some r) (h1 : -9223372036854775808 ≤ c) (h2 : c ≤ 9223372036854775807) (hl : (r.length + 1) * 8 ≤ 140737488355328) :
    ∃ v' w', (Builtin.append_ #[26, 26] ty #[u, .slice (some ⟨w.heap.size, 0, none⟩) 1 1]).run Try.prog (w.alloc (.cells #[.int .i64 c] 3)) = .ok v' w' ∧ (∃ a m d, v' = .slice a m d) ∧ w'.cell? ⟨g, x, none⟩ = some u ∧ w'.frozen? ⟨g, x, none⟩ = false ∧ Rw14 w0 (w'.setCell ⟨g, x, none⟩ v') (.slice (some ⟨g, 0, none⟩) n cap) (vs.set x v') (l.set x (r ++ [c])) := by
  have hz : (vs.zip l)[x]? = some (u, r) := List.getElem?_zip_eq_some.2 ⟨hv, hr⟩
  have ho := h.own.own x u r hz
  have h' := h.later (below_alloc (.cells #[.int .i64 c] 3))
  obtain ⟨v', w', hrun, g1, g2, g3⟩ := join_one ty ho h1 h2 h.bel.size hl
  have hs := h'.own.step (i := x) hz g2 g1 (by
    rcases g3 with g3 | g3
    · exact .inl g3
    · exact .inr ⟨_, g3, Nat.le_refl _⟩)
  rw [zip_set14] at hs
  have ho' := h'.own.own x u r hz
  have hxl := (List.getElem?_eq_some_iff.1 hr).1
  rcases h'.row.2 with ⟨e0, _⟩ | ⟨g', cap', cur, hvv, hb, hgg, hc, hm, hsz, ht⟩
  · cases e0
  · simp only [Value.slice.injEq, Option.some.injEq, Addr.mk.injEq, and_true] at hvv
    obtain ⟨rfl, rfl, rfl⟩ := hvv
    have hblk : w'.heap[g]? = some (.cells cur 26 (0, 0)) := (g2.block g (Array.getElem?_eq_some_iff.1 hgg).1 (fun e => own_ne ho'.2 hgg (by decide) e.symm)).trans hgg
    have hbel : Below w0.heap.size w0 w' := h'.bel.grown g2 h'.bel.size (fun k hk => own_blk ho'.2 hk)
    obtain ⟨ao, cap2, hv', _⟩ := g1.shape
    refine ⟨v', w', hrun, ⟨_, _, _, hv'⟩, ?_, frozen_of_row w' g x _ _ hblk, hbel.setCell (p := ⟨g, x, none⟩) hb v', ⟨by rw [List.length_set, List.length_set]; exact h'.row.1, .inr ⟨g, cap, cur.setIfInBounds x v', by rw [List.length_set], hb, by rw [heap_setCell_same w' g x _ _ _ hblk], by rw [List.length_set]; exact hc, hm, by simpa using hsz, ?_⟩⟩, by rw [List.length_set, List.length_set, h.len], hs.kept (set_grown w' g x v') hblk (by decide)⟩
    · rw [cell_of_row w' g x _ _ _ hblk]
      have : (cur.toList.take (l.length * 1))[x]? = some u := by rw [ht]; exact hv
      rw [List.getElem?_take_of_lt (by omega)] at this
      simpa using this
    · rw [List.length_set, Array.toList_setIfInBounds, List.take_set, ht]

set_option maxRecDepth 100000 in
set_option maxHeartbeats 1600000 in
theorem edge14_any (v : Value) (G : List (List Int)) (i : Nat) (es : List Int) (t : Int) (w : World) (h : Rs w v G) (hes : G[i]? = some es) :
    Calls Try.prog 16 #[v, .int .i64 (i : Int), .int .i64 t] w fun e w' => e = .returned (.bool (decide (t ∈ es))) ∧ w' = w := by
  have hi := (List.getElem?_eq_some_iff.1 hes).1
  obtain ⟨ao, cap, rfl, hao, hca, _⟩ := Row.flat h
  unfold maxLen at hca
  obtain ⟨g1, o1, xa, es', xc, rfl, hes', hx2, hx3, hx4⟩ := h.at hi
  rw [hes] at hes'
  cases hes'
  have HX := hid hx3
  clear hx3 h hes
  go_enter Try.func16, Try.ntmps16
  go_wp2
  go_loopw [7] (fun j wr => ∃ k : Nat, k ≤ es.length ∧ j = .int .i64 k ∧ t ∉ es.take k ∧ wr = w) (fun j _ => es.length - (intOf j).toNat)
  case atStart => exact ⟨0, Nat.zero_le _, rfl, by simp, rfl⟩
  case round =>
    obtain ⟨k, hk, rfl, ht, hw⟩ := hrel
    have hw' := hw
    subst hw'
    have HT := hid ht
    clear ht hw
    by_cases hkl : k < es.length
    · obtain ⟨gx, ox, p, rfl, hp1, hp2, hp3, hp4⟩ := HX.out.at hkl
      have HP := hid hp1
      have hw1 : IntKind.i64.wrap ((k : Int) + 1) = ((k + 1 : Nat) : Int) := by rw [IntWalk.i64_in _ ⟨by omega, by omega⟩]; omega
      clear hp1
      by_cases hpt : p = t
      · have hd : (p == t) = true := by simpa using hpt
        have HE : Hid (decide (t ∈ es) = true) := decide_eq_true (by rw [← hpt]; exact List.mem_of_getElem? HP.out)
        clear hpt
        go_wp2
        go_ret
        exact ⟨ret1b HE.out.symm, rfl⟩
      · have hd : (p == t) = false := by simpa using hpt
        have HE : Hid (t ∉ es.take (k + 1)) := by
          show _
          rw [take_get HP.out, List.mem_append]
          rintro (h | h)
          · exact HT.out h
          · simp at h; exact hpt h.symm
        clear hpt
        go_wp2
        go_roundw
        case rel => exact ⟨k + 1, hkl, by go_num, HE.out, trivial⟩
        case measure => simp only [intOf]; omega
    · have HE : Hid (decide (t ∈ es) = false) := decide_eq_false (by have h9 := HT.out; rw [List.take_of_length_le (by omega)] at h9; exact h9)
      go_wp2
      go_ret
      exact ⟨ret1b HE.out.symm, rfl⟩

end Go.Proofs.Ytmokokhhheonoaa

/- GraphTurned: with all edges turned round the parts are the same. -/
namespace Go.Proofs.Ytmokokhhheonoaa
open Go.RowKit Go.Maps Go.BigFrame

def cnt14 (G : List (List Int)) (i k : Nat) : Nat := ((G.take i).map List.length).sum + k

theorem sum_le14 (G : List (List Int)) : ∀ i, ((G.take i).map List.length).sum ≤ (G.map List.length).sum := fun i => by
  have : (G.map List.length).sum = ((G.take i).map List.length).sum + ((G.drop i).map List.length).sum := by
    rw [← List.sum_append, ← List.map_append, List.take_append_drop]
  omega

theorem cnt_le14 {G : List (List Int)} {i k : Nat} {es : List Int} (h : G[i]? = some es) (hk : k ≤ es.length) : cnt14 G i k ≤ (G.map List.length).sum := by
  have := sum_le14 G (i + 1)
  rw [take_get h, List.map_append, List.sum_append] at this
  simp only [List.map_cons, List.map_nil, List.sum_cons, List.sum_nil] at this
  unfold cnt14
  omega

end Go.Proofs.Ytmokokhhheonoaa

/- GraphMore: one edge more. -/
namespace Go.Proofs.Ytmokokhhheonoaa
open Go.RowKit Go.Maps Go.BigFrame

set_option maxRecDepth 100000 in
set_option maxHeartbeats 32000000 in
theorem graphMore_any (v : Value) (G : List (List Int)) (f0 t0 : Int) (w : World) (h : Rs w v G) (hbf : -9223372036854775808 ≤ f0 ∧ f0 ≤ 9223372036854775807) (hbt : -9223372036854775808 ≤ t0 ∧ t0 ≤ 9223372036854775807) (hsum : (G.map List.length).sum ≤ 1048576) :
    Calls Try.prog 8 #[v, .int .i64 f0, .int .i64 t0] w fun e w' => e = .returned (.bool true) ∧ Below w.heap.size w w' := by
  obtain ⟨ao, cap, rfl, hao, hca, _⟩ := Row.flat h
  unfold maxLen at hca
  have HG := hid h
  have HSum := hid hsum
  clear h hsum
  go_enter Try.func8, Try.ntmps8
  go_wp2_with fail
  refine (shown14_any w).mono ?_
  rintro e w1 ⟨rfl, hb1⟩
  have B1 := hid hb1
  clear hb1
  by_cases hbig : 60 < G.length
  · have hd : decide (60 < G.length) = true := by simpa using hbig
    go_wp2
    go_ret
    exact ⟨rfl, B1.out⟩
  have hd : decide (60 < G.length) = false := by simpa using hbig
  by_cases hf0 : f0 < 0
  · have hdf : decide (f0 < 0) = true := by simpa using hf0
    go_wp2
    go_ret
    exact ⟨rfl, B1.out⟩
  obtain ⟨f, rfl⟩ : ∃ x : Nat, f0 = (x : Int) := ⟨f0.toNat, by omega⟩
  have hdf : decide ((f : Int) < 0) = false := by simp
  by_cases hfn : G.length ≤ f
  · have hdf2 : decide (G.length ≤ f) = true := by simpa using hfn
    have hdf3 : decide ((G.length : Int) ≤ (f : Int)) = true := by simpa using hfn
    go_wp2
    go_ret
    exact ⟨rfl, B1.out⟩
  have hdf2 : decide (G.length ≤ f) = false := by simpa using hfn
  have hdf3 : decide ((G.length : Int) ≤ (f : Int)) = false := by simp; omega
  by_cases ht0 : t0 < 0
  · have hdt : decide (t0 < 0) = true := by simpa using ht0
    go_wp2
    go_ret
    exact ⟨rfl, B1.out⟩
  obtain ⟨t, rfl⟩ : ∃ x : Nat, t0 = (x : Int) := ⟨t0.toNat, by omega⟩
  have hdt : decide ((t : Int) < 0) = false := by simp
  by_cases htn : G.length ≤ t
  · have hdt2 : decide (G.length ≤ t) = true := by simpa using htn
    have hdt3 : decide ((G.length : Int) ≤ (t : Int)) = true := by simpa using htn
    go_wp2
    go_ret
    exact ⟨rfl, B1.out⟩
  have hdt2 : decide (G.length ≤ t) = false := by simpa using htn
  have hdt3 : decide ((G.length : Int) ≤ (t : Int)) = false := by simp; omega
  have hfl : f < G.length := by omega
  have htl : t < G.length := by omega
  clear hbf hbt
  have HRs := hid (HG.out.kp (Kp.of_below B1.out))
  go_wp2_with fail
  refine (parts_any14 HRs.out (by omega)).mono ?_
  rintro e w2 ⟨va, _, _, rfl, ha⟩
  have HA0 := hid (ha.rs (by omega))
  have C2 := hid ha.2.2.2.1
  clear ha
  obtain ⟨ea, ca, hva, _, _, _⟩ := Row.flat HA0.out
  obtain ⟨na, hna⟩ : ∃ n, n = ((partsG G).map natL).length := ⟨_, rfl⟩
  rw [← hna] at hva
  subst hva
  clear hna
  go_wp2_with fail
  refine (refWays14_any _ G w2 (HRs.out.kp (Kp.of_below C2.out)) (by omega)).mono ?_
  rintro e w3 ⟨tv, rb, rfl, hwt⟩
  have HT := hid hwt
  obtain ⟨gr, rc, hv, hrc, _⟩ := hwt.form (by omega)
  subst hv
  have C3 := hid hwt.bel
  have HRow : Hid (∀ W, Below w3.heap.size w3 W → ∀ i, i < G.length → W.cell? ⟨gr, i, none⟩ = some (.slice (some ⟨rb i, 0, none⟩) G.length G.length)) := fun W hW i hi => by
    obtain ⟨g', rc', hv, _, hrow⟩ := (HT.out.later hW).form (by omega)
    cases hv
    exact hrow i hi
  clear hwt
  go_wp2_with fail
  refine (copied14_any _ G w3 (HRs.out.kp (Kp.of_below (below_step C2.out C3.out))) (by omega)).mono ?_
  rintro e w4 ⟨vm, vs, rfl, hcp⟩
  obtain ⟨gm, cm, hvm⟩ := own_form hcp.row (show 0 < G.length by omega)
  subst hvm
  obtain ⟨r, hr⟩ : ∃ r, G[f]? = some r := ⟨_, List.getElem?_eq_getElem hfl⟩
  obtain ⟨u, hu⟩ : ∃ u, vs[f]? = some u := ⟨_, List.getElem?_eq_getElem (by rw [hcp.len]; exact hfl)⟩
  have hc0 : w4.cell? ⟨gm, f, none⟩ = some u := by rw [World.ownsRow.cellAt hcp.row f (by omega)]; exact hu
  have hou := hcp.owr.2 f u r hu hr
  obtain ⟨uo, uc, huv, _⟩ := hou.shape
  subst huv
  have hle : ∀ x, x ∈ G → x.length ≤ 1048576 := fun x hx => by
    obtain ⟨j, hj⟩ := List.getElem?_of_mem hx
    have h1 := cnt_le14 hj (Nat.le_refl _)
    have h2 := HSum.out
    unfold cnt14 at h1
    omega
  have hrl := hle r (List.mem_of_getElem? hr)
  obtain ⟨v', w', hrun, ⟨a9, m9, c8, rfl⟩, hc8, hf8, hrw⟩ := hcp.pushAt 26 (c := (t : Int)) hu hr (by omega) (by omega) (by omega)
  obtain ⟨W5, hW5⟩ : ∃ X, X = w'.setCell ⟨gm, f, none⟩ (.slice a9 m9 c8) := ⟨_, rfl⟩
  rw [← hW5] at hrw
  obtain ⟨M, hM⟩ : ∃ M, M = G.set f (r ++ [(t : Int)]) := ⟨_, rfl⟩
  have hMl : M.length = G.length := by rw [hM, List.length_set]
  rw [← hM] at hrw
  have HRm : Hid (Rs W5 (.slice (some ⟨gm, 0, none⟩) G.length cm) M) := hrw.rs fun x hx => by
    rw [hM] at hx
    rcases List.mem_or_eq_of_mem_set hx with hx | rfl
    · have := hle x hx; omega
    · rw [List.length_append, List.length_singleton]; omega
  have C5 := hid hrw.bel
  have HR := hid hrun
  have HIs : Hid (∀ i k, i < G.length → k < G.length → hm14 M i k = (go14 G f t i k && go14 G f t k i)) := fun i k hi hk => by rw [hM]; exact more_is hr htl hi hk
  have HWas : Hid (∀ i k, hm14 G i k = true → hm14 M i k = true) := fun i k h => by rw [hM]; exact more_was hr htl h
  have HSame : Hid ((t : Int) ∈ r → partsG M = partsG G) := fun h => by rw [hM]; exact more_same hr htl h
  have HRr := hid hr
  have HMl := hid hMl
  clear hcp hou hle hrl hrw hM hrun hr hu hMl
  go_wp2_with (first
    | (at_builtin; refine wpList_append_run rfl _ _ _ rfl _ _ rfl rfl HR.out ?_)
    | fail)
  rw [← hW5]
  clear hW5 HR hc8 hf8 hc0
  refine (parts_any14 HRm.out (by rw [HMl.out]; omega)).mono ?_
  rintro e w6 ⟨vb, _, _, rfl, hb⟩
  have HD0 := hid (hb.rs (by rw [HMl.out]; omega))
  have C6 := hid hb.2.2.2.1
  clear hb
  obtain ⟨ed, cd, hvd, _, _, _⟩ := Row.flat HD0.out
  obtain ⟨nd, hnd⟩ : ∃ n, n = ((partsG M).map natL).length := ⟨_, rfl⟩
  rw [← hnd] at hvd
  subst hvd
  clear hnd HRm
  have C36 := hid (below_step C5.out C6.out)
  have HA6 := hid (HA0.out.kp (Kp.of_below (below_step C3.out C36.out)))
  have BW := hid (below_step B1.out (below_step C2.out (below_step C3.out C36.out)))
  have HRg := hid (HRs.out.kp (Kp.of_below (below_step C2.out (below_step C3.out C36.out))))
  have HHa : Hid (∀ (x : Int) (W' : World), Below w6.heap.size w6 W' → Calls Try.prog 14 #[.slice ea na ca, .int .i64 x] W' fun e w' => e = .returned (.int .i64 (homeI ((partsG G).map natL) x)) ∧ w' = W') := fun x W' hb => home14_any _ _ x W' (HA6.out.kp (Kp.of_below hb))
  have HHd : Hid (∀ (x : Int) (W' : World), Below w6.heap.size w6 W' → Calls Try.prog 14 #[.slice ed nd cd, .int .i64 x] W' fun e w' => e = .returned (.int .i64 (homeI ((partsG M).map natL) x)) ∧ w' = W') := fun x W' hb => home14_any _ _ x W' (HD0.out.kp (Kp.of_below hb))
  clear HA0 HRs C2 C3 C5 C6
  go_wp2
  go_loopw [13, 14, 15, 16, 17, 18] (fun i _ _ _ _ _ wr => ∃ k : Nat, k ≤ G.length ∧ i = .int .i64 k ∧ Below w6.heap.size w6 wr) (fun i _ _ _ _ _ _ => G.length - (intOf i).toNat)
  case atStart => exact ⟨0, Nat.zero_le _, rfl, Below.refl _ _⟩
  case round =>
    obtain ⟨i, hi, rfl, hbw⟩ := hrel
    have HBw0 := hid hbw
    clear hbw
    by_cases hil : i < G.length
    · as_aux_lemma =>
        have hdi : decide ((i : Int) < (G.length : Int)) = true := by simpa using hil
        have hwi : IntKind.i64.wrap ((i : Int) + 1) = ((i + 1 : Nat) : Int) := by rw [IntWalk.i64_in _ ⟨by omega, by omega⟩]; omega
        go_wp2
        go_loopw [14, 15, 16, 17, 18] (fun j _ _ _ _ wr => ∃ k : Nat, k ≤ G.length ∧ j = .int .i64 k ∧ Below w6.heap.size w6 wr) (fun j _ _ _ _ _ => G.length - (intOf j).toNat)
        case atStart => exact ⟨0, Nat.zero_le _, rfl, HBw0.out⟩
        case round =>
          obtain ⟨k, hk, rfl, hbw⟩ := hrel
          have HBw := hid hbw
          clear hbw HBw0
          by_cases hkl : k < G.length
          · as_aux_lemma =>
              have hdk : decide ((k : Int) < (G.length : Int)) = true := by simpa using hkl
              have hw1 : IntKind.i64.wrap ((k : Int) + 1) = ((k + 1 : Nat) : Int) := by rw [IntWalk.i64_in _ ⟨by omega, by omega⟩]; omega
              have HBt := hid (below_step C36.out HBw.out)
              have hIs := HIs.out i k hil hkl
              have hWas := HWas.out i k
              obtain ⟨BA, hBA⟩ : ∃ b, b = hm14 G i k := ⟨_, rfl⟩
              obtain ⟨BD, hBD⟩ : ∃ b, b = hm14 M i k := ⟨_, rfl⟩
              obtain ⟨Go1, hGo1⟩ : ∃ b, b = go14 G f t i k := ⟨_, rfl⟩
              obtain ⟨Go2, hGo2⟩ : ∃ b, b = go14 G f t k i := ⟨_, rfl⟩
              rw [← hBD, ← hGo1, ← hGo2] at hIs
              rw [← hBA, ← hBD] at hWas
              have HC1 := hid hIs
              have HC2 := hid hWas
              have HC3 := HC1
              have HC4 := HC1
              have HGo1 := hid hGo1
              have HGo2 := hid hGo2
              unfold go14 at HGo1 HGo2
              obtain ⟨AX, hAX⟩ : ∃ x, x = homeI ((partsG G).map natL) (i : Int) := ⟨_, rfl⟩
              obtain ⟨AY, hAY⟩ : ∃ x, x = homeI ((partsG G).map natL) (k : Int) := ⟨_, rfl⟩
              obtain ⟨DX, hDX⟩ : ∃ x, x = homeI ((partsG M).map natL) (i : Int) := ⟨_, rfl⟩
              obtain ⟨DY, hDY⟩ : ∃ x, x = homeI ((partsG M).map natL) (k : Int) := ⟨_, rfl⟩
              have HBA : Hid (BA = (decide (0 ≤ AX) && (AX == AY))) := by show _ = _; rw [hBA, hAX, hAY]; rfl
              have HBD : Hid (BD = (decide (0 ≤ DX) && (DX == DY))) := by show _ = _; rw [hBD, hDX, hDY]; rfl
              have hAi := fun W' hb => HHa.out (i : Int) W' hb
              have hAk := fun W' hb => HHa.out (k : Int) W' hb
              have hDi := fun W' hb => HHd.out (i : Int) W' hb
              have hDk := fun W' hb => HHd.out (k : Int) W' hb
              rw [← hAX] at hAi
              rw [← hAY] at hAk
              rw [← hDX] at hDi
              rw [← hDY] at hDk
              have HAi := hid hAi
              have HAk := hid hAk
              have HDi := hid hDi
              have HDk := hid hDk
              clear hAi hAk hDi hDk hAX hAY hDX hDY hBA hBD hGo1 hGo2 hIs hWas HHa HHd HIs HWas HSame HRr HRg HD0 HA6
              go_upto_region 18 with fail
              go_cut [15] from 73 to 85 (fun x wx => x = .bool BA ∧ wx = wr)
              case first =>
                clear HC1 HC2 HC3 HC4
                by_cases h0 : 0 ≤ AX
                · have hd0 : decide (0 ≤ AX) = true := by simpa using h0
                  have he : (AX == AY) = BA := by rw [HBA.out, hd0]; rfl
                  clear HBA HBD h0
                  go_wp2_with fail
                  refine (HAi.out _ HBw.out).mono ?_
                  rintro e w9 ⟨rfl, hw9⟩
                  have hw8 := hw9.symm
                  subst hw8
                  clear hw9
                  go_wp2_with fail
                  refine (HAi.out _ HBw.out).mono ?_
                  rintro e w9 ⟨rfl, hw9⟩
                  have hw8 := hw9.symm
                  subst hw8
                  clear hw9
                  go_wp2_with fail
                  refine (HAk.out _ HBw.out).mono ?_
                  rintro e w9 ⟨rfl, hw9⟩
                  have hw8 := hw9.symm
                  subst hw8
                  clear hw9
                  go_wp2
                  go_meet
                  case rel => exact ⟨rfl, by trivial⟩
                · have hd0 : decide (0 ≤ AX) = false := by simpa using h0
                  obtain rfl : BA = false := by rw [HBA.out, hd0]; rfl
                  clear HBA HBD h0
                  go_wp2_with fail
                  refine (HAi.out _ HBw.out).mono ?_
                  rintro e w9 ⟨rfl, hw9⟩
                  have hw8 := hw9.symm
                  subst hw8
                  clear hw9
                  go_wp2
                  go_meet
                  case rel => exact ⟨rfl, by trivial⟩
              obtain ⟨rfl, hwx9⟩ := hcut
              have hwx8 := hwx9.symm
              subst hwx8
              clear hwx9
              go_upto_region 19 with fail
              go_cut [16] from 86 to 98 (fun x wx => x = .bool BD ∧ wx = wr)
              case first =>
                clear HC1 HC2 HC3 HC4
                by_cases h0 : 0 ≤ DX
                · have hd0 : decide (0 ≤ DX) = true := by simpa using h0
                  have he : (DX == DY) = BD := by rw [HBD.out, hd0]; rfl
                  clear HBA HBD h0
                  go_wp2_with fail
                  refine (HDi.out _ HBw.out).mono ?_
                  rintro e w9 ⟨rfl, hw9⟩
                  have hw8 := hw9.symm
                  subst hw8
                  clear hw9
                  go_wp2_with fail
                  refine (HDi.out _ HBw.out).mono ?_
                  rintro e w9 ⟨rfl, hw9⟩
                  have hw8 := hw9.symm
                  subst hw8
                  clear hw9
                  go_wp2_with fail
                  refine (HDk.out _ HBw.out).mono ?_
                  rintro e w9 ⟨rfl, hw9⟩
                  have hw8 := hw9.symm
                  subst hw8
                  clear hw9
                  go_wp2
                  go_meet
                  case rel => exact ⟨rfl, by trivial⟩
                · have hd0 : decide (0 ≤ DX) = false := by simpa using h0
                  obtain rfl : BD = false := by rw [HBD.out, hd0]; rfl
                  clear HBA HBD h0
                  go_wp2_with fail
                  refine (HDi.out _ HBw.out).mono ?_
                  rintro e w9 ⟨rfl, hw9⟩
                  have hw8 := hw9.symm
                  subst hw8
                  clear hw9
                  go_wp2
                  go_meet
                  case rel => exact ⟨rfl, by trivial⟩
              obtain ⟨rfl, hwx9⟩ := hcut
              have hwx8 := hwx9.symm
              subst hwx8
              clear hwx9
              go_upto_region 20 with fail
              go_cut [17] from 99 to 133 (fun x wx => x = .bool Go1 ∧ wx = wr)
              case first =>
                have HTw := hid (HT.out.later HBt.out)
                have z1 := HRow.out wr HBt.out i hil
                have z2 := HRow.out wr HBt.out t htl
                have y0 := HTw.out.bit hil hkl
                have y1 := HTw.out.bit hil hfl
                have y2 := HTw.out.bit htl hkl
                generalize wayB G i k = B0 at y0 HGo1
                generalize wayB G i f = B1 at y1 HGo1
                generalize wayB G t k = B2 at y2 HGo1
                have HG9 : Hid (Go1 = (B0 || (((i == f) || B1) && ((t == k) || B2)))) := HGo1.out
                clear HGo1 HGo2 HC1 HC2 HC3 HC4 HBA HBD HTw
                cases B0 with
                | true =>
                  obtain rfl : Go1 = true := by rw [HG9.out]; (try rw [d0]); (try rw [d2]); rfl
                  clear HG9
                  go_wp2
                  go_meet
                  case rel => exact ⟨rfl, by trivial⟩
                | false =>
                  by_cases e1 : i = f
                  · have d0 : (i == f) = true := by simpa using e1
                    have d1 : ((i : Int) == (f : Int)) = true := by simp [e1]
                    clear e1
                    by_cases e2 : t = k
                    · have d2 : (t == k) = true := by simpa using e2
                      have d3 : ((t : Int) == (k : Int)) = true := by simp [e2]
                      clear e2
                      obtain rfl : Go1 = true := by rw [HG9.out]; (try rw [d0]); (try rw [d2]); rfl
                      clear HG9
                      go_wp2
                      go_meet
                      case rel => exact ⟨rfl, by trivial⟩
                    · have d2 : (t == k) = false := by simpa using e2
                      have d3 : ((t : Int) == (k : Int)) = false := by rw [beq_eq_false_iff_ne]; omega
                      clear e2
                      cases B2 with
                      | true =>
                        obtain rfl : Go1 = true := by rw [HG9.out]; (try rw [d0]); (try rw [d2]); rfl
                        clear HG9
                        go_wp2
                        go_meet
                        case rel => exact ⟨rfl, by trivial⟩
                      | false =>
                        obtain rfl : Go1 = false := by rw [HG9.out]; (try rw [d0]); (try rw [d2]); rfl
                        clear HG9
                        go_wp2
                        go_meet
                        case rel => exact ⟨rfl, by trivial⟩
                  · have d0 : (i == f) = false := by simpa using e1
                    have d1 : ((i : Int) == (f : Int)) = false := by rw [beq_eq_false_iff_ne]; omega
                    clear e1
                    cases B1 with
                    | true =>
                      by_cases e2 : t = k
                      · have d2 : (t == k) = true := by simpa using e2
                        have d3 : ((t : Int) == (k : Int)) = true := by simp [e2]
                        clear e2
                        obtain rfl : Go1 = true := by rw [HG9.out]; (try rw [d0]); (try rw [d2]); rfl
                        clear HG9
                        go_wp2
                        go_meet
                        case rel => exact ⟨rfl, by trivial⟩
                      · have d2 : (t == k) = false := by simpa using e2
                        have d3 : ((t : Int) == (k : Int)) = false := by rw [beq_eq_false_iff_ne]; omega
                        clear e2
                        cases B2 with
                        | true =>
                          obtain rfl : Go1 = true := by rw [HG9.out]; (try rw [d0]); (try rw [d2]); rfl
                          clear HG9
                          go_wp2
                          go_meet
                          case rel => exact ⟨rfl, by trivial⟩
                        | false =>
                          obtain rfl : Go1 = false := by rw [HG9.out]; (try rw [d0]); (try rw [d2]); rfl
                          clear HG9
                          go_wp2
                          go_meet
                          case rel => exact ⟨rfl, by trivial⟩
                    | false =>
                      obtain rfl : Go1 = false := by rw [HG9.out]; (try rw [d0]); (try rw [d2]); rfl
                      clear HG9
                      go_wp2
                      go_meet
                      case rel => exact ⟨rfl, by trivial⟩
              obtain ⟨rfl, hwx9⟩ := hcut
              have hwx8 := hwx9.symm
              subst hwx8
              clear hwx9
              go_upto_region 21 with fail
              go_cut [18] from 134 to 168 (fun x wx => x = .bool Go2 ∧ wx = wr)
              case first =>
                have HTw := hid (HT.out.later HBt.out)
                have z1 := HRow.out wr HBt.out k hkl
                have z2 := HRow.out wr HBt.out t htl
                have y0 := HTw.out.bit hkl hil
                have y1 := HTw.out.bit hkl hfl
                have y2 := HTw.out.bit htl hil
                generalize wayB G k i = B0 at y0 HGo2
                generalize wayB G k f = B1 at y1 HGo2
                generalize wayB G t i = B2 at y2 HGo2
                have HG9 : Hid (Go2 = (B0 || (((k == f) || B1) && ((t == i) || B2)))) := HGo2.out
                clear HGo1 HGo2 HC1 HC2 HC3 HC4 HBA HBD HTw
                cases B0 with
                | true =>
                  obtain rfl : Go2 = true := by rw [HG9.out]; (try rw [d0]); (try rw [d2]); rfl
                  clear HG9
                  go_wp2
                  go_meet
                  case rel => exact ⟨rfl, by trivial⟩
                | false =>
                  by_cases e1 : k = f
                  · have d0 : (k == f) = true := by simpa using e1
                    have d1 : ((k : Int) == (f : Int)) = true := by simp [e1]
                    clear e1
                    by_cases e2 : t = i
                    · have d2 : (t == i) = true := by simpa using e2
                      have d3 : ((t : Int) == (i : Int)) = true := by simp [e2]
                      clear e2
                      obtain rfl : Go2 = true := by rw [HG9.out]; (try rw [d0]); (try rw [d2]); rfl
                      clear HG9
                      go_wp2
                      go_meet
                      case rel => exact ⟨rfl, by trivial⟩
                    · have d2 : (t == i) = false := by simpa using e2
                      have d3 : ((t : Int) == (i : Int)) = false := by rw [beq_eq_false_iff_ne]; omega
                      clear e2
                      cases B2 with
                      | true =>
                        obtain rfl : Go2 = true := by rw [HG9.out]; (try rw [d0]); (try rw [d2]); rfl
                        clear HG9
                        go_wp2
                        go_meet
                        case rel => exact ⟨rfl, by trivial⟩
                      | false =>
                        obtain rfl : Go2 = false := by rw [HG9.out]; (try rw [d0]); (try rw [d2]); rfl
                        clear HG9
                        go_wp2
                        go_meet
                        case rel => exact ⟨rfl, by trivial⟩
                  · have d0 : (k == f) = false := by simpa using e1
                    have d1 : ((k : Int) == (f : Int)) = false := by rw [beq_eq_false_iff_ne]; omega
                    clear e1
                    cases B1 with
                    | true =>
                      by_cases e2 : t = i
                      · have d2 : (t == i) = true := by simpa using e2
                        have d3 : ((t : Int) == (i : Int)) = true := by simp [e2]
                        clear e2
                        obtain rfl : Go2 = true := by rw [HG9.out]; (try rw [d0]); (try rw [d2]); rfl
                        clear HG9
                        go_wp2
                        go_meet
                        case rel => exact ⟨rfl, by trivial⟩
                      · have d2 : (t == i) = false := by simpa using e2
                        have d3 : ((t : Int) == (i : Int)) = false := by rw [beq_eq_false_iff_ne]; omega
                        clear e2
                        cases B2 with
                        | true =>
                          obtain rfl : Go2 = true := by rw [HG9.out]; (try rw [d0]); (try rw [d2]); rfl
                          clear HG9
                          go_wp2
                          go_meet
                          case rel => exact ⟨rfl, by trivial⟩
                        | false =>
                          obtain rfl : Go2 = false := by rw [HG9.out]; (try rw [d0]); (try rw [d2]); rfl
                          clear HG9
                          go_wp2
                          go_meet
                          case rel => exact ⟨rfl, by trivial⟩
                    | false =>
                      obtain rfl : Go2 = false := by rw [HG9.out]; (try rw [d0]); (try rw [d2]); rfl
                      clear HG9
                      go_wp2
                      go_meet
                      case rel => exact ⟨rfl, by trivial⟩
              obtain ⟨rfl, hwx9⟩ := hcut
              have hwx8 := hwx9.symm
              subst hwx8
              clear hwx9
              have hc1 := HC1.out
              have hc2 := HC2.out
              clear HC1 HC2 HC3 HC4 HAi HAk HDi HDk HBA HBD HGo1 HGo2 HT HRow
              have hn1 : (BA && !BD) = false := by cases BA; rfl; rw [hc2 rfl]; rfl
              have hn2 : (BD != (Go1 && Go2)) = false := by rw [hc1]; simp
              clear hc1 hc2
              have hq := hn2
              cases BA with
              | true =>
                obtain rfl : BD = true := by cases BD; cases hn1; rfl
                have hg12 : (Go1 && Go2) = true := by cases hgg : (Go1 && Go2); rw [hgg] at hn2; cases hn2; rfl
                obtain ⟨rfl, rfl⟩ : Go1 = true ∧ Go2 = true := by simpa using hg12
                clear hn1 hn2 hq hg12
                go_wp2
                go_roundw
                case rel => exact ⟨k + 1, hkl, by go_num, HBw.out⟩
                case measure => simp only [intOf]; omega
              | false =>
                cases Go1 with
                | true =>
                  cases Go2 with
                  | true =>
                    obtain rfl : BD = true := by cases BD; cases hn2; rfl
                    clear hn1 hn2 hq
                    go_wp2
                    go_roundw
                    case rel => exact ⟨k + 1, hkl, by go_num, HBw.out⟩
                    case measure => simp only [intOf]; omega
                  | false =>
                    obtain rfl : BD = false := by cases BD; rfl; cases hn2
                    clear hn1 hn2 hq
                    go_wp2
                    go_roundw
                    case rel => exact ⟨k + 1, hkl, by go_num, HBw.out⟩
                    case measure => simp only [intOf]; omega
                | false =>
                  obtain rfl : BD = false := by cases BD; rfl; cases hn2
                  clear hn1 hn2 hq
                  go_wp2
                  go_roundw
                  case rel => exact ⟨k + 1, hkl, by go_num, HBw.out⟩
                  case measure => simp only [intOf]; omega
          · as_aux_lemma =>
              have hdk : decide ((k : Int) < (G.length : Int)) = false := by simpa using hkl
              go_wp2
              go_roundw
              case rel => exact ⟨i + 1, hil, by go_num, HBw.out⟩
              case measure => simp only [intOf]; omega
    · as_aux_lemma =>
        have hdi : decide ((i : Int) < (G.length : Int)) = false := by simpa using hil
        have HRw := hid (HRg.out.kp (Kp.of_below HBw0.out))
        obtain ⟨E, hE⟩ : ∃ E, E = decide ((t : Int) ∈ r) := ⟨_, rfl⟩
        have HEd := hid (edge14_any _ G f r (t : Int) wr HRw.out HRr.out)
        rw [← hE] at HEd
        cases hEE : E with
        | false =>
          rw [hEE] at HEd
          go_wp2_with fail
          refine HEd.out.mono ?_
          rintro e w9 ⟨rfl, hw9⟩
          have hw8 := hw9.symm
          subst hw8
          clear hw9 HEd
          have B9 := hid (below_step BW.out HBw0.out)
          go_wp2
          go_ret
          exact ⟨rfl, B9.out⟩
        | true =>
          have HEq := hid (HSame.out (of_decide_eq_true (by rw [← hE, hEE])))
          rw [hEE] at HEd
          clear hEE hE
          go_wp2_with fail
          refine HEd.out.mono ?_
          rintro e w9 ⟨rfl, hw9⟩
          have hw8 := hw9.symm
          subst hw8
          clear hw9 HEd
          go_wp2_with fail
          refine (same14_any _ _ _ _ _ (HA6.out.kp (Kp.of_below HBw0.out)) (HD0.out.kp (Kp.of_below HBw0.out))).mono ?_
          rintro e w10 ⟨rfl, hb10⟩
          have B9 := hid (below_step BW.out (below_step HBw0.out hb10))
          rw [HEq.out, decide_eq_true rfl]
          clear hb10
          go_wp2
          go_ret
          exact ⟨rfl, B9.out⟩

end Go.Proofs.Ytmokokhhheonoaa
