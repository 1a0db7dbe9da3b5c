/- Texts of the proof, one behind the other. -/
import Derived.Test.YtcijfaijjpkdoaaDoorOwn6
import Derived.Test.YtcijfaijjpkdoaaDoorOwn4
import Derived.Deep.LoopGhost
import Derived.Test.YtcijfaijjpkdoaaDoorOwn9
import Derived.Test.YtcijfaijjpkdoaaDoorOwn5
/- The document's End and place walked. -/
namespace Go.Proofs.YtcijfaijjpkdoaaDoor
open Go.RowKit Go.Maps Go.BigFrame

theorem codeD_neg {sig : List Sy} {c e : Int} (h : codeD sig c = some e) (hc : c < 0) : e = -1 := by
  unfold codeD at h
  split at h
  · cases h
  · first
    | (rw [if_pos hc] at h; cases h; rfl)
    | (cases h; rfl)

theorem codeD_get {sig : List Sy} {c : Nat} {e : Int} (h : codeD sig (c : Int) = some e) : ∃ s, sig[c]? = some s ∧ e = s.2 - 1 := by
  unfold codeD at h
  rw [if_neg (by omega), if_neg (by omega), Int.toNat_natCast] at h
  cases hs : sig[c]? with
  | none => rw [hs] at h; cases h
  | some s =>
    rw [hs] at h
    cases h
    exact ⟨s, rfl, rfl⟩

set_option maxRecDepth 100000 in
set_option maxHeartbeats 1600000 in
theorem refEnd_any (sv v : Value) (sig : List Sy) (t : List Int) (k n : Nat) (w : World) (hs : Sg w sv sig) (h : Is w v t) (ha : ArOk sig) (hb : t.length * 8 ≤ 140737488351232) (hn : firstT sig 1 0 (t.drop k) = ((n : Int), 0)) :
    Calls Tryd.prog 21 #[sv, v, .int .i64 k] w fun e w' => e = .returned (.int .i64 ((k + n : Nat) : Int)) ∧ w' = w := by
  obtain ⟨so, sc, rfl, hso, hsc, _⟩ := Row.flat hs
  obtain ⟨ao, cap, rfl, hao, hca, q0⟩ := Row.flat h
  unfold maxLen at hca hsc
  have HS := hid hs
  have HT := hid h
  have HA := hid ha
  have HN := hid hn
  have hkl : k < t.length := by
    by_cases hk : k < t.length
    · exact hk
    · rw [List.drop_of_length_le (by omega)] at hn
      simp [firstT] at hn
  clear hs h q0 ha hn
  go_enter Tryd.func21, Tryd.ntmps21
  go_wp2
  go_loopw [2, 7] (fun a x wr => ∃ (j : Nat) (m : Int), a = .int .i64 ((k + j : Nat) : Int) ∧ x = .int .i64 m ∧ k + j ≤ t.length ∧ ((0 < m ∧ firstT sig m j (t.drop (k + j)) = ((n : Int), 0)) ∨ (m = 0 ∧ j = n)) ∧ m ≤ 1 + 1000 * (j : Int) ∧ wr = w) (fun a _ _ => t.length + 1 - (intOf a).toNat)
  case atStart => exact ⟨0, 1, rfl, rfl, by omega, .inl ⟨by omega, HN.out⟩, by omega, rfl⟩
  case round =>
    obtain ⟨j, m, rfl, rfl, hkj, hft, hm2, hw⟩ := hrel
    have hw8 := hw.symm
    subst hw8
    clear hw HN
    rcases hft with ⟨hm0, hft⟩ | ⟨rfl, rfl⟩
    · have hlt : k + j < t.length := by
        by_cases hk : k + j < t.length
        · exact hk
        · rw [List.drop_of_length_le (by omega)] at hft
          simp [firstT] at hft
      obtain ⟨g, off, c, rfl, hx1, hx2, hx3, hx4⟩ := HT.out.at hlt
      rw [drop_get hx1, firstT_cons] at hft
      cases hcd : codeD sig c with
      | none => rw [hcd] at hft; simp at hft
      | some e =>
        have hge := codeD_ge HA.out hcd
        have HD : Hid ((0 < m + e ∧ firstT sig (m + e) (j + 1) (t.drop (k + (j + 1))) = ((n : Int), 0)) ∨ (m + e = 0 ∧ j + 1 = n)) := by
          rw [hcd] at hft
          simp only at hft
          by_cases h0 : m + e = 0
          · rw [if_pos h0] at hft
            have := congrArg Prod.fst hft
            simp only at this
            exact .inr ⟨h0, by omega⟩
          · rw [if_neg h0] at hft
            exact .inl ⟨by omega, hft⟩
        clear hft
        have hwk : IntKind.i64.wrap ((k : Int) + (j : Int) + 1) = ((k + (j + 1) : Nat) : Int) := by rw [IntWalk.i64_in _ ⟨by omega, by omega⟩]; omega
        by_cases hc0 : c < 0
        · have he := codeD_neg hcd hc0
          subst he
          have hcn : ¬ 0 ≤ c := by omega
          have hwm : IntKind.i64.wrap (m - 1) = m + -1 := by rw [IntWalk.i64_in _ ⟨by omega, by omega⟩]; omega
          clear hcd hx1
          go_wp2
          go_roundw
          case rel => exact ⟨j + 1, m + -1, by go_num, rfl, by omega, HD.out, by omega, trivial⟩
          case measure => simp [intOf]; omega
        · obtain ⟨cn, rfl⟩ : ∃ cn : Nat, c = cn := ⟨c.toNat, by omega⟩
          have hcn : (0 : Int) ≤ (cn : Int) := by omega
          obtain ⟨s, hsg, he⟩ := codeD_get hcd
          have hcl := (List.getElem?_eq_some_iff.1 hsg).1
          obtain ⟨g2, off2, nm, ar, rfl, hs1, hs2, hs3, hs4, hs5, hs6⟩ := HS.out.at (k := cn) hcl
          rw [hsg] at hs1
          cases hs1
          have har := HA.out _ (List.mem_of_getElem? hsg)
          simp only at har he
          subst he
          have hwm1 : IntKind.i64.wrap (m - 1) = m - 1 := IntWalk.i64_in _ ⟨by omega, by omega⟩
          have hwm : IntKind.i64.wrap (m - 1 + ar) = m + (ar - 1) := by rw [IntWalk.i64_in _ ⟨by omega, by omega⟩]; omega
          clear hsg hx1 hcd
          go_wp2
          go_roundw
          case rel => exact ⟨j + 1, m + (ar - 1), by go_num, rfl, by omega, HD.out, by omega, trivial⟩
          case measure => simp [intOf]; omega
    · go_wp2
      go_ret
      exact ⟨rfl, rfl⟩

/-- What is wrong with a place. -/
theorem place_eq {sig : List Sy} {t : List Int} {p : Int} (h : termE sig t = 0) : placeE sig t p = if p < 0 ∨ (t.length : Int) ≤ p then 33 else 0 := by
  unfold placeE
  rw [if_pos h]
  unfold endP
  by_cases hp : p < 0 ∨ (t.length : Int) ≤ p
  · rw [if_pos hp, if_pos hp]
  · rw [if_neg hp, if_neg hp]
    obtain ⟨k, rfl⟩ : ∃ k : Nat, p = k := ⟨p.toNat, by omega⟩
    have hk : k < t.length := by omega
    obtain ⟨h1, h2⟩ := term_parts h
    obtain ⟨_, _, h3, _⟩ := at_place (sigE_ok h1) h2 hk
    rw [Int.toNat_natCast, h3]

theorem place_in {sig : List Sy} {t : List Int} {k : Nat} (h : termE sig t = 0) (hk : k < t.length) : placeE sig t k = 0 := by
  rw [place_eq h, if_neg (by omega)]

theorem place_end {sig : List Sy} {t : List Int} {k : Nat} (h : termE sig t = 0) (hk : k < t.length) : endP sig t k = (((k + nodes sig t k : Nat) : Int), 0) := by
  obtain ⟨h1, h2⟩ := term_parts h
  obtain ⟨_, _, h3, _⟩ := at_place (sigE_ok h1) h2 hk
  unfold endP
  rw [if_neg (by omega), Int.toNat_natCast, h3]
  simp only [Prod.mk.injEq, and_true]
  omega

theorem sub_eq {sig : List Sy} {t : List Int} {k : Nat} (h : termE sig t = 0) (hk : k < t.length) : subL sig t k = (t.drop k).take (nodes sig t k) := by
  unfold subL
  rw [if_pos (place_in h hk), place_end h hk, Int.toNat_natCast, Int.toNat_natCast, show k + nodes sig t k - k = nodes sig t k by omega]

end Go.Proofs.YtcijfaijjpkdoaaDoor

/- The document's Kids, Sub, Above, Vars walked. -/
namespace Go.Proofs.YtcijfaijjpkdoaaDoor
open Go.RowKit Go.Maps Go.BigFrame

/-- A symbol's arguments, where they stand. -/
theorem kids_parts {sig : List Sy} {t : List Int} {k : Nat} {c : Int} (h : placeE sig t k = 0) (hc : t[k]? = some c) (h0 : ¬ c < 0) :
    ∃ (us : List (List Int)) (q : List Int), us.length = arN sig c ∧ t.drop (k + 1) = us.flatten ++ q ∧ (∀ u ∈ us, rowE sig u = 0) ∧ kidsL sig t k = places (k + 1) (us.map List.length) := by
  obtain ⟨ha, hr, k', m, hk, hkl, hm1, hend, hkm, hsub, hrow⟩ := placeE_ok h
  obtain rfl : k = k' := by omega
  have hd := drop_get hc
  obtain ⟨m', rfl⟩ : ∃ m', m = m' + 1 := ⟨m - 1, by omega⟩
  rw [hd, List.take_succ_cons] at hsub hrow
  obtain ⟨us, u1, u2, u3, u4⟩ := kids_tree ha hrow h0
  refine ⟨us, (t.drop (k + 1)).drop m', u1, by rw [← u2, List.take_append_drop], u3, ?_⟩
  unfold kidsL
  rw [hsub, Int.toNat_natCast, u4]
  show kidsGo (k + 1) (us.flatMap (growR sig)) = _
  rw [kids_places, ← grow_map ha us u3, grow_flat ha us u3]

theorem kids_var {sig : List Sy} {t : List Int} {k : Nat} {c : Int} (h : placeE sig t k = 0) (hc : t[k]? = some c) (h0 : c < 0) : kidsL sig t k = [] := by
  rw [kids_eq h hc, if_pos h0]

theorem drop_next {us : List (List Int)} {i : Nat} {u : List Int} (h : us[i]? = some u) (q : List Int) : (us.drop i).flatten ++ q = u ++ ((us.drop (i + 1)).flatten ++ q) := by
  rw [drop_get h, List.flatten_cons, List.append_assoc]

theorem first_right {sig : List Sy} {u : List Int} (h : rowE sig u = 0) (q : List Int) : firstT sig 1 0 (u ++ q) = ((u.length : Int), 0) := first_more q u 1 0 _ (by rw [row_first.1 h])

theorem place_term {sig : List Sy} {t : List Int} {p : Int} (h : placeE sig t p = 0) : termE sig t = 0 := by
  unfold placeE at h
  by_cases ht : termE sig t = 0
  · exact ht
  · rw [if_neg ht] at h; exact h

/-- The places above a place, as they are told. -/
def aboveL (sig : List Sy) (t : List Int) (p : Int) : List Int := if placeE sig t p = 0 then (abD sig t p.toNat).map fun i : Nat => (i : Int) else []

end Go.Proofs.YtcijfaijjpkdoaaDoor

/- When binds make a pattern a term, plainly. -/
namespace Go.Proofs.YtcijfaijjpkdoaaDoor
open Go.RowKit Go.Maps

/-- Binds whose rows are right terms. -/
def Rt (sig : List Sy) (f : Int → Option (List Int)) : Prop := ∀ n u, f n = some u → rowE sig u = 0

/-- The binds make the one row the other one, and have all its variables. -/
def Sm (f : Int → Option (List Int)) (p t : List Int) : Prop := (∀ c ∈ p, c < 0 → f (-1 - c) ≠ none) ∧ laidL f p = t

theorem laidL_app (f : Int → Option (List Int)) (a b : List Int) : laidL f (a ++ b) = laidL f a ++ laidL f b := by
  unfold laidL
  rw [List.flatMap_append]

theorem laidL_cons (f : Int → Option (List Int)) (c : Int) (b : List Int) : laidL f (c :: b) = piece f c ++ laidL f b := by
  unfold laidL
  rw [List.flatMap_cons]

theorem sm_var {f : Int → Option (List Int)} {c : Int} {t : List Int} (hc : c < 0) : Sm f [c] t ↔ f (-1 - c) = some t := by
  unfold Sm
  rw [laidL_cons]
  have hp : piece f c = (f (-1 - c)).getD [c] := by unfold piece; rw [if_pos hc]
  rw [hp]
  constructor
  · rintro ⟨h1, h2⟩
    have h3 := h1 c (by simp) hc
    cases hf : f (-1 - c) with
    | none => exact absurd hf h3
    | some u =>
      rw [hf] at h2
      simp [laidL] at h2
      rw [h2]
  · intro h
    rw [h]
    refine ⟨fun d hd _ => ?_, by simp [laidL]⟩
    simp at hd
    subst hd
    rw [h]
    simp

theorem sm_head {f : Int → Option (List Int)} {c d : Int} {r s : List Int} (hc : ¬ c < 0) : Sm f (c :: r) (d :: s) ↔ c = d ∧ Sm f r s := by
  unfold Sm
  rw [laidL_cons]
  have hp : piece f c = [c] := by unfold piece; rw [if_neg hc]
  rw [hp]
  constructor
  · rintro ⟨h1, h2⟩
    simp only [List.singleton_append, List.cons.injEq] at h2
    exact ⟨h2.1, fun x hx h0 => h1 x (by simp [hx]) h0, h2.2⟩
  · rintro ⟨rfl, h1, h2⟩
    refine ⟨fun x hx h0 => ?_, by rw [h2]; rfl⟩
    rcases List.mem_cons.1 hx with rfl | hx
    · omega
    · exact h1 x hx h0

theorem sm_split {f : Int → Option (List Int)} {a b s u : List Int} (hl : (laidL f a).length = s.length) : Sm f (a ++ b) (s ++ u) ↔ Sm f a s ∧ Sm f b u := by
  unfold Sm
  rw [laidL_app]
  constructor
  · rintro ⟨h1, h2⟩
    obtain ⟨h3, h4⟩ := List.append_inj h2 hl
    exact ⟨⟨fun c hc => h1 c (by simp [hc]), h3⟩, ⟨fun c hc => h1 c (by simp [hc]), h4⟩⟩
  · rintro ⟨⟨h1, h2⟩, h3, h4⟩
    refine ⟨fun c hc h0 => ?_, by rw [h2, h4]⟩
    rcases List.mem_append.1 hc with hc | hc
    · exact h1 c hc h0
    · exact h3 c hc h0

/-- Arguments one by one. -/
theorem sm_list {sig : List Sy} (ha : ArOk sig) {f : Int → Option (List Int)} (hf : Rt sig f) : ∀ (us vs : List (List Int)), us.length = vs.length → (∀ u ∈ us, rowE sig u = 0) → (∀ v ∈ vs, rowE sig v = 0) → (Sm f us.flatten vs.flatten ↔ ∀ (k : Nat) (u v : List Int), us[k]? = some u → vs[k]? = some v → Sm f u v)
  | [], [], _, _, _ => by
    refine ⟨fun _ k u v hu => by simp at hu, fun _ => ⟨fun c hc => by simp at hc, rfl⟩⟩
  | u :: us, v :: vs, hl, hu, hv => by
    have ih := sm_list ha hf us vs (by simpa using hl) (fun x hx => hu x (by simp [hx])) (fun x hx => hv x (by simp [hx]))
    rw [List.flatten_cons, List.flatten_cons]
    have hlu := row_laid ha hf (hu u (by simp))
    constructor
    · intro h
      have h2 := h.2
      rw [laidL_app] at h2
      have h3 := first_right hlu (laidL f us.flatten)
      rw [h2, first_right (hv v (by simp))] at h3
      have h4 : v.length = (laidL f u).length := by
        have := congrArg Prod.fst h3
        simp only at this
        omega
      obtain ⟨h5, h6⟩ := (sm_split h4.symm).1 h
      intro k a b ha1 hb1
      cases k with
      | zero =>
        simp only [List.getElem?_cons_zero, Option.some.injEq] at ha1 hb1
        subst ha1
        subst hb1
        exact h5
      | succ k =>
        rw [List.getElem?_cons_succ] at ha1 hb1
        exact ih.1 h6 k a b ha1 hb1
    · intro h
      have h5 := h 0 u v rfl rfl
      refine (sm_split (by rw [h5.2])).2 ⟨h5, ih.2 fun k a b ha1 hb1 => h (k + 1) a b (by simpa using ha1) (by simpa using hb1)⟩
  | [], _ :: _, hl, _, _ => by simp at hl
  | _ :: _, [], hl, _, _ => by simp at hl

/-- A pair of places: a pattern's tree and a term's. -/
structure Pr where
  P : Tr
  q1 : Nat
  T : Tr
  q2 : Nat

def Pr.pr (p : List Int) (d : Pr) : List Int := (p.drop d.q1).take d.P.size
def Pr.tr (t : List Int) (d : Pr) : List Int := (t.drop d.q2).take d.T.size
def Pr.ok (sig : List Sy) (p t : List Int) (d : Pr) : Prop := Wf sig p d.P d.q1 ∧ Wf sig t d.T d.q2

theorem take_head {r : List Int} {q : Nat} {c : Int} (h : r[q]? = some c) (n : Nat) : (r.drop q).take (n + 1) = c :: (r.drop (q + 1)).take n := by
  rw [drop_get h, List.take_succ_cons]

/-- A pattern's variable. -/
theorem pr_var {sig : List Sy} {p t : List Int} {d : Pr} (h : d.ok sig p t) (hP : d.P = .var) : ∃ c, p[d.q1]? = some c ∧ c < 0 ∧ ∀ f, Sm f (d.pr p) (d.tr t) ↔ f (-1 - c) = some (d.tr t) := by
  have h1 := h.1
  rw [hP] at h1
  obtain ⟨c, hc, h0⟩ := h1.var
  refine ⟨c, hc, h0, fun f => ?_⟩
  have : d.pr p = [c] := by
    unfold Pr.pr
    rw [hP]
    simp only [Tr.size]
    rw [take_head hc 0]
    rfl
  rw [this]
  exact sm_var h0

theorem first_of {r : List Int} {q n : Nat} (h : q + (1 + n) ≤ r.length) : ∃ c, r[q]? = some c := ⟨_, List.getElem?_eq_getElem (by omega)⟩

/-- The places of arguments. -/
def argPr (_p _t : List Int) (ts1 ts2 : List Tr) (q1 q2 : Nat) : List Pr := (List.range ts1.length).map fun k => ⟨(ts1[k]?).getD .var, q1 + 1 + sizes (ts1.take k), (ts2[k]?).getD .var, q2 + 1 + sizes (ts2.take k)⟩

theorem sizes_cut {ts : List Tr} {k : Nat} {t : Tr} (h : ts[k]? = some t) : sizes (ts.take (k + 1)) = sizes (ts.take k) + t.size := by
  rw [take_get h, sizes_app]
  simp [sizes]

/-- A row of arguments is what its trees say. -/
theorem args_flat (r : List Int) : ∀ (ts : List Tr) (o : Nat), (r.drop o).take (sizes ts) = ((List.range ts.length).map fun k => (r.drop (o + sizes (ts.take k))).take ((ts[k]?).getD .var).size).flatten
  | [], o => by simp [sizes]
  | t :: ts, o => by
    rw [List.length_cons, List.range_succ_eq_map, List.map_cons, List.flatten_cons, List.map_map]
    have ih := args_flat r ts (o + t.size)
    simp only [sizes, List.take_zero, Nat.add_zero, List.getElem?_cons_zero, Option.getD_some]
    rw [List.take_add, List.drop_drop, ih]
    congr 2
    refine List.map_congr_left fun k _ => ?_
    simp only [Function.comp, List.take_succ_cons, sizes, List.getElem?_cons_succ]
    rw [Nat.add_assoc]

/-- A pattern's symbol. -/
theorem pr_app {sig : List Sy} (ha : ArOk sig) {p t : List Int} {d : Pr} (h : d.ok sig p t) {ts1 : List Tr} (hP : d.P = .app ts1) {c x : Int} (hc : p[d.q1]? = some c) (hx : t[d.q2]? = some x) :
    (d.T = .var ∨ c ≠ x → ∀ f, ¬ Sm f (d.pr p) (d.tr t)) ∧ (∀ ts2, d.T = .app ts2 → c = x → ts2.length = ts1.length ∧ (∀ e ∈ argPr p t ts1 ts2 d.q1 d.q2, e.ok sig p t) ∧ ∀ f, Rt sig f → (Sm f (d.pr p) (d.tr t) ↔ ∀ e ∈ argPr p t ts1 ts2 d.q1 d.q2, Sm f (e.pr p) (e.tr t))) := by
  have h1 := h.1
  rw [hP] at h1
  obtain ⟨c', hc', hc0, hl1, hk1⟩ := h1.app ha
  rw [hc] at hc'
  cases hc'
  have hpr : d.pr p = c :: (p.drop (d.q1 + 1)).take (sizes ts1) := by
    unfold Pr.pr
    rw [hP]
    simp only [Tr.size]
    rw [Nat.add_comm, take_head hc]
  constructor
  · rintro hh f hs
    have htr : ∃ s, d.tr t = x :: s := by
      unfold Pr.tr
      obtain ⟨n, hn⟩ : ∃ n, d.T.size = n + 1 := ⟨d.T.size - 1, by have := d.T.pos; omega⟩
      rw [hn, take_head hx]
      exact ⟨_, rfl⟩
    obtain ⟨s, htr⟩ := htr
    rw [hpr, htr] at hs
    have := (sm_head hc0).1 hs
    rcases hh with hh | hh
    · have h2 := h.2
      rw [hh] at h2
      obtain ⟨x', hx', h0⟩ := h2.var
      rw [hx] at hx'
      cases hx'
      omega
    · exact hh this.1
  · intro ts2 hT hcx
    have h2 := h.2
    rw [hT] at h2
    obtain ⟨x', hx', hx0, hl2, hk2⟩ := h2.app ha
    rw [hx] at hx'
    cases hx'
    have hll : ts2.length = ts1.length := by rw [hl1, hl2, hcx]
    have hok : ∀ e ∈ argPr p t ts1 ts2 d.q1 d.q2, e.ok sig p t := by
      intro e he
      obtain ⟨k, hk, rfl⟩ := List.mem_map.1 he
      have hk := List.mem_range.1 hk
      have e1 : ts1[k]? = some ts1[k] := List.getElem?_eq_getElem hk
      have e2 : ts2[k]? = some (ts2[k]'(by omega)) := List.getElem?_eq_getElem (by omega)
      unfold Pr.ok
      simp only [e1, e2, Option.getD_some]
      exact ⟨hk1 k _ e1, hk2 k _ e2⟩
    refine ⟨hll, hok, fun f hf => ?_⟩
    have htr : d.tr t = x :: (t.drop (d.q2 + 1)).take (sizes ts2) := by
      unfold Pr.tr
      rw [hT]
      simp only [Tr.size]
      rw [Nat.add_comm, take_head hx]
    rw [hpr, htr, sm_head hc0, args_flat p ts1 (d.q1 + 1), args_flat t ts2 (d.q2 + 1)]
    have hlist := sm_list ha hf ((List.range ts1.length).map fun k => (p.drop (d.q1 + 1 + sizes (ts1.take k))).take ((ts1[k]?).getD .var).size) ((List.range ts2.length).map fun k => (t.drop (d.q2 + 1 + sizes (ts2.take k))).take ((ts2[k]?).getD .var).size) (by simp [hll])
      (fun u hu => by
        obtain ⟨k, hk, rfl⟩ := List.mem_map.1 hu
        have hk := List.mem_range.1 hk
        have e1 : ts1[k]? = some ts1[k] := List.getElem?_eq_getElem hk
        rw [e1, Option.getD_some]
        exact (hk1 k _ e1).row.1)
      (fun u hu => by
        obtain ⟨k, hk, rfl⟩ := List.mem_map.1 hu
        have hk := List.mem_range.1 hk
        have e1 : ts2[k]? = some ts2[k] := List.getElem?_eq_getElem hk
        rw [e1, Option.getD_some]
        exact (hk2 k _ e1).row.1)
    rw [hlist]
    constructor
    · rintro ⟨_, hh⟩ e he
      obtain ⟨k, hk, rfl⟩ := List.mem_map.1 he
      have hk := List.mem_range.1 hk
      exact hh k _ _ (by rw [List.getElem?_map, List.getElem?_range hk]; rfl) (by rw [List.getElem?_map, List.getElem?_range (by omega)]; rfl)
    · intro hh
      refine ⟨hcx, fun k u v hu hv => ?_⟩
      have hk : k < ts1.length := by
        have := (List.getElem?_eq_some_iff.1 hu).1
        simpa using this
      rw [List.getElem?_map, List.getElem?_range hk] at hu
      rw [List.getElem?_map, List.getElem?_range (by omega)] at hv
      simp only [Option.map_some, Option.some.injEq] at hu hv
      subst hu
      subst hv
      exact hh _ (List.mem_map.2 ⟨k, List.mem_range.2 hk, rfl⟩)

end Go.Proofs.YtcijfaijjpkdoaaDoor

/- boundRows: what its round reads. -/
namespace Go.Proofs.YtcijfaijjpkdoaaDoor
open Go.RowKit Go.Maps Go.BigFrame

theorem zero_varM : (Tryd.prog.info? 79).map (·.zero) = some (some (.agg #[.slice none 0 0])) := by kernel_rfl

theorem as_varM (v : Value) (xT : TypeId) (w : World) : (Instr.typeAssert (.iface 79 v) xT 79 true).run Tryd.prog w = .ok (.tuple #[v, .bool true]) w := by
  simp [Instr.typeAssert, run_underlying Tryd.underlying79, go_sem, Result.andThen]

theorem as_varnotM (v : Value) (xT : TypeId) (w : World) : (Instr.typeAssert (.iface 86 v) xT 79 true).run Tryd.prog w = .ok (.tuple #[.agg #[.slice none 0 0], .bool false]) w := by
  obtain ⟨i, hi, hz⟩ : ∃ i, Tryd.prog.info? 79 = some i ∧ i.zero = some (.agg #[.slice none 0 0]) := by
    have h := zero_varM
    cases hi : Tryd.prog.info? 79 with
    | none => rw [hi] at h; cases h
    | some i => rw [hi] at h; exact ⟨i, rfl, by simpa using h⟩
  simp [Instr.typeAssert, run_underlying Tryd.underlying79, go_sem, Result.andThen, zeroValue, typeInfo, hi, hz]

/-- The beginning of a row of pairs. -/
theorem own_cutP {w : World} {base : Nat} {ao : Option Addr} {cap k : Nat} {xs : List (Value × Value)} (h : OwP w base (.slice ao xs.length cap) xs) (hk : k ≤ xs.length) : OwP w base (.slice ao k cap) (xs.take k) := by
  have h1 := h.1
  have hl : (xs.take k).length = k := by rw [List.length_take]; omega
  unfold OwP
  rw [hl]
  refine ⟨by rw [prC_len, hl], ?_⟩
  rcases h.2 with ⟨hv, hn⟩ | ⟨g, cp, cur, hv, hb, hg, hc, hm, hs, ht⟩
  · simp only [Value.slice.injEq] at hv
    obtain ⟨rfl, _, rfl⟩ := hv
    obtain rfl : k = 0 := by omega
    exact .inl ⟨rfl, rfl⟩
  · simp only [Value.slice.injEq] at hv
    obtain ⟨rfl, _, rfl⟩ := hv
    refine .inr ⟨g, cap, cur, rfl, hb, hg, by omega, hm, hs, ?_⟩
    have e1 : prC (xs.take k) = (prC xs).take (k * 2) := by
      have e2 : prC xs = prC (xs.take k) ++ prC (xs.drop k) := by rw [← prC_app, List.take_append_drop]
      have e3 : (prC (xs.take k)).length = k * 2 := by rw [prC_len, hl]
      rw [e2, ← e3, List.take_left]
    rw [e1, ← ht, List.take_take, Nat.min_eq_left (by omega)]

/-- The last one of a row of pairs. -/
theorem own_lastP {w : World} {base : Nat} {v : Value} {xs : List (Value × Value)} {k : Nat} {p : Value × Value} (h : OwP w base v xs) (hk : xs[k]? = some p) : ∃ g cap, v = .slice (some ⟨g, 0, none⟩) xs.length cap ∧ base ≤ g ∧ xs.length ≤ cap ∧ cap ≤ 9223372036854775807 ∧ w.cell? ⟨g, k * 2, none⟩ = some p.1 ∧ w.cell? ⟨g, k * 2 + 1, none⟩ = some p.2 := by
  have hkl := (List.getElem?_eq_some_iff.1 hk).1
  obtain ⟨c1, c2⟩ := prC_at xs k p hk
  have hlen := prC_len xs
  rcases h.2 with ⟨_, hn⟩ | ⟨g, cp, cur, hv, hb, hg, hc, hm, hs, ht⟩
  · omega
  · subst hv
    unfold maxLen at hm
    refine ⟨g, cp, rfl, hb, hc, by omega, ?_, ?_⟩
    · rw [World.ownsRow.cellAt h (k * 2) (by omega)]
      exact c1
    · rw [World.ownsRow.cellAt h (k * 2 + 1) (by omega)]
      exact c2

/-- What the pairs are. -/
def PrV (w : World) (A : Nat → Prop) (S1 S2 : Nat → Nat → Value) : List (Value × Value) → List Pr → Prop
  | [], [] => True
  | x :: xs, d :: ds => (TP w A S1 x.1 d.P d.q1 ∧ TP w A S2 x.2 d.T d.q2) ∧ PrV w A S1 S2 xs ds
  | _, _ => False

theorem PrV.len {w : World} {A : Nat → Prop} {S1 S2 : Nat → Nat → Value} : ∀ {xs : List (Value × Value)} {ds : List Pr}, PrV w A S1 S2 xs ds → xs.length = ds.length
  | [], [], _ => rfl
  | _ :: _, _ :: _, ⟨_, h⟩ => congrArg (· + 1) (PrV.len h)
  | [], _ :: _, h => h.elim
  | _ :: _, [], h => h.elim

theorem PrV.app {w : World} {A : Nat → Prop} {S1 S2 : Nat → Nat → Value} : ∀ {xs ys : List (Value × Value)} {ds es : List Pr}, PrV w A S1 S2 xs ds → PrV w A S1 S2 ys es → PrV w A S1 S2 (xs ++ ys) (ds ++ es)
  | [], _, [], _, _, h => h
  | _ :: _, _, _ :: _, _, ⟨h1, h2⟩, h => ⟨h1, PrV.app h2 h⟩
  | [], _, _ :: _, _, h, _ => h.elim
  | _ :: _, _, [], _, h, _ => h.elim

/-- The last pair taken off. -/
theorem PrV.pop {w : World} {A : Nat → Prop} {S1 S2 : Nat → Nat → Value} {xs : List (Value × Value)} {ds : List Pr} {x : Value × Value} (h : PrV w A S1 S2 (xs ++ [x]) ds) : ∃ es d, ds = es ++ [d] ∧ PrV w A S1 S2 xs es ∧ TP w A S1 x.1 d.P d.q1 ∧ TP w A S2 x.2 d.T d.q2 := by
  induction xs generalizing ds with
  | nil =>
    match ds, h with
    | [d], ⟨h1, _⟩ => exact ⟨[], d, rfl, trivial, h1.1, h1.2⟩
  | cons y xs ih =>
    match ds, h with
    | d :: ds, ⟨h1, h2⟩ =>
      obtain ⟨es, e, rfl, i1, i2, i3⟩ := ih h2
      exact ⟨d :: es, e, rfl, ⟨h1, i1⟩, i2, i3⟩

/-- Pairs of arguments. -/
theorem PrV.args {w : World} {A : Nat → Prop} {S1 S2 : Nat → Nat → Value} (p t : List Int) {q1 q2 : Nat} {xs : List (Value × Value)} {ts1 ts2 : List Tr} (hl : ts2.length = ts1.length) (h1 : TPl w A S1 (xs.map (·.1)) ts1 (q1 + 1)) (h2 : TPl w A S2 (xs.map (·.2)) ts2 (q2 + 1)) : PrV w A S1 S2 xs (argPr p t ts1 ts2 q1 q2) := by
  have hx : xs.length = ts1.length := by have := h1.len; rwa [List.length_map] at this
  have key : ∀ (n : Nat) (ys : List (Value × Value)) (o : Nat), ys.length = n → (∀ (k : Nat) (y : Value × Value), ys[k]? = some y → xs[o + k]? = some y) → o + n ≤ ts1.length → PrV w A S1 S2 ys ((List.range n).map fun k => (⟨(ts1[o + k]?).getD .var, q1 + 1 + sizes (ts1.take (o + k)), (ts2[o + k]?).getD .var, q2 + 1 + sizes (ts2.take (o + k))⟩ : Pr)) := by
    intro n
    induction n with
    | zero =>
      intro ys o hy _ _
      obtain rfl := List.eq_nil_of_length_eq_zero hy
      trivial
    | succ n ih =>
      intro ys o hy hg ho
      match ys, hy with
      | y :: ys, hy =>
        rw [List.range_succ_eq_map, List.map_cons, List.map_map]
        have e0 := hg 0 y rfl
        rw [Nat.add_zero] at e0
        have f1 : ts1[o]? = some (ts1[o]'(by omega)) := List.getElem?_eq_getElem (by omega)
        have f2 : ts2[o]? = some (ts2[o]'(by omega)) := List.getElem?_eq_getElem (by omega)
        refine ⟨⟨?_, ?_⟩, ?_⟩
        · simp only [Nat.add_zero, f1, Option.getD_some]
          exact h1.get (by rw [List.getElem?_map, e0]; rfl) f1
        · simp only [Nat.add_zero, f2, Option.getD_some]
          exact h2.get (by rw [List.getElem?_map, e0]; rfl) f2
        · have := ih ys (o + 1) (by simpa using hy) (fun k z hz => by
            have := hg (k + 1) z (by simpa using hz)
            rw [show o + 1 + k = o + (k + 1) by omega]
            exact this) (by omega)
          have e9 : ((fun k => (⟨(ts1[o + k]?).getD .var, q1 + 1 + sizes (ts1.take (o + k)), (ts2[o + k]?).getD .var, q2 + 1 + sizes (ts2.take (o + k))⟩ : Pr)) ∘ Nat.succ) = fun k => (⟨(ts1[o + 1 + k]?).getD .var, q1 + 1 + sizes (ts1.take (o + 1 + k)), (ts2[o + 1 + k]?).getD .var, q2 + 1 + sizes (ts2.take (o + 1 + k))⟩ : Pr) := by
            funext k
            simp only [Function.comp, Nat.succ_eq_add_one]
            rw [show o + (k + 1) = o + 1 + k by omega]
          rw [e9]
          exact this
  have := key ts1.length xs 0 hx (fun k y hy => by rwa [Nat.zero_add]) (by omega)
  simp only [Nat.zero_add] at this
  exact this

/-- How many nodes wait. -/
def wait (ds : List Pr) : Nat := (ds.map fun d => d.P.size).sum

theorem wait_app (a b : List Pr) : wait (a ++ b) = wait a + wait b := by simp [wait, List.sum_append]

theorem wait_args (p t : List Int) (ts1 ts2 : List Tr) (q1 q2 : Nat) : wait (argPr p t ts1 ts2 q1 q2) = sizes ts1 := by
  unfold wait argPr
  rw [List.map_map]
  have : ∀ (ts : List Tr), ((List.range ts.length).map fun k => ((ts[k]?).getD .var).size).sum = sizes ts := by
    intro ts
    induction ts with
    | nil => rfl
    | cons t ts ih =>
      rw [List.length_cons, List.range_succ_eq_map, List.map_cons, List.map_map, List.sum_cons]
      simp only [List.getElem?_cons_zero, Option.getD_some, sizes]
      have e9 : ((fun k => (((t :: ts)[k]?).getD .var).size) ∘ Nat.succ) = fun k => ((ts[k]?).getD .var).size := by
        funext k
        simp
      rw [e9, ih]
  exact this ts1

end Go.Proofs.YtcijfaijjpkdoaaDoor
