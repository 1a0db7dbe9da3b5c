/- Texts of the proof, one behind the other. -/
import Derived.Test.YtfeeafkfjngemaaDoorOwn5
import Derived.Test.YtfeeafkfjngemaaDoorOwn3
import Derived.Test.YtfeeafkfjngemaaDoorOwn2
import Derived.DeepKeys4
import Derived.WideKeyEntry
import Derived.Test.YtfeeafkfjngemaaDoorOwn4
import Derived.Deep.Slices
import Derived.Ground.NamesProg
import Derived.Shelf.Sort.Plain
import Derived.Shelf.Slices.In.SortNone
import Derived.Sort.OwnSortedInts
/- A term's arguments, one behind the other. -/
namespace Go.Proofs.YtfeeafkfjngemaaDoor
open Go.RowKit Go.Maps

/-- What stands at the head of a row of terms. -/
theorem first_part {sig : List Sy} (ha : ArOk sig) : ∀ (r : List Int) (d m : Int) (j i : Nat), 1 ≤ d → d ≤ m → firstT sig m i r = ((i : Int) + r.length, 0) →
    ∃ k : Nat, 1 ≤ k ∧ k ≤ r.length ∧ firstT sig d j r = ((j : Int) + k, 0) ∧ (m = d → k = r.length) ∧ (d < m → firstT sig (m - d) (i + k) (r.drop k) = ((i : Int) + r.length, 0))
  | [], d, m, j, i, _, _, h => by simp [firstT] at h
  | c :: r, d, m, j, i, hd, hm, h => by
    rw [firstT_cons] at h ⊢
    cases hc : codeD sig c with
    | none => rw [hc] at h; simp at h
    | some e =>
      have he := codeD_ge ha hc
      rw [hc] at h
      simp only at h ⊢
      by_cases h0 : m + e = 0
      · rw [if_pos h0] at h
        have hl : r.length = 0 := by
          have := congrArg Prod.fst h
          simp at this
          omega
        refine ⟨1, Nat.le_refl _, by simp, by rw [if_pos (by omega)]; simp, fun _ => by simp [hl], fun h1 => by omega⟩
      · rw [if_neg h0] at h
        by_cases h1 : d + e = 0
        · refine ⟨1, Nat.le_refl _, by simp, by rw [if_pos h1]; simp, fun h2 => by omega, fun h2 => ?_⟩
          rw [List.drop_succ_cons, List.drop_zero, show m - d = m + e by omega]
          exact h
        · obtain ⟨k, k1, k2, k3, k4, k5⟩ := first_part ha r (d + e) (m + e) (j + 1) (i + 1) (by omega) (by omega) (by rw [h]; simp only [List.length_cons, Prod.mk.injEq, and_true]; omega)
          refine ⟨k + 1, by omega, by simp; omega, by rw [if_neg h1, k3]; simp only [Prod.mk.injEq, and_true]; omega, fun h2 => by have := k4 (by omega); simp; omega, fun h2 => ?_⟩
          have h3 := k5 (by omega)
          rw [List.drop_succ_cons, show m - d = m + e - (d + e) by omega, show i + (k + 1) = i + 1 + k by omega, h3]
          simp only [List.length_cons, Prod.mk.injEq, and_true]
          omega

/-- A row of m terms is taken apart. -/
theorem split_first {sig : List Sy} (ha : ArOk sig) : ∀ (m : Nat) (r : List Int) (i : Nat), 1 ≤ m → firstT sig m i r = ((i : Int) + r.length, 0) → ∃ us : List (List Int), us.length = m ∧ r = us.flatten ∧ ∀ u ∈ us, rowE sig u = 0
  | 0, _, _, h, _ => absurd h (by omega)
  | m + 1, r, i, _, h => by
    obtain ⟨k, k1, k2, k3, k4, k5⟩ := first_part ha r 1 ((m + 1 : Nat) : Int) 0 i (by omega) (by omega) h
    obtain ⟨k', e1, _, _, e4⟩ := first_take r 1 0 _ k3
    have hkk : k' = k := by omega
    subst hkk
    have hr : rowE sig (r.take k') = 0 := by
      rw [row_first, e4, List.length_take]
      simp only [Prod.mk.injEq, and_true]
      omega
    by_cases hm : m = 0
    · subst hm
      have := k4 (by omega)
      refine ⟨[r], rfl, by simp, fun u hu => ?_⟩
      rw [List.mem_singleton] at hu
      subst hu
      rw [List.take_of_length_le (by omega)] at hr
      exact hr
    · have h5 := k5 (by omega)
      rw [show ((m + 1 : Nat) : Int) - 1 = (m : Int) by omega] at h5
      obtain ⟨us, u1, u2, u3⟩ := split_first ha m (r.drop k') (i + k') (by omega) (by rw [h5, List.length_drop]; simp only [Prod.mk.injEq, and_true]; omega)
      refine ⟨r.take k' :: us, by simp [u1], by rw [List.flatten_cons, ← u2, List.take_append_drop], fun u hu => ?_⟩
      rcases List.mem_cons.1 hu with rfl | hu
      · exact hr
      · exact u3 u hu

/-- What grows of a row behind another one. -/
theorem grow_behind {sig : List Sy} (ha : ArOk sig) (v : List Int) : ∀ (u p : List Int), firstT sig 1 0 (p ++ u) = (((p ++ u).length : Int), 0) → growR sig (u ++ v) = growR sig v ++ growR sig u
  | [], p, _ => by simp [growR]
  | c :: u, p, h => by
    have ih := grow_behind ha v u (p ++ [c]) (by simpa using h)
    show growStep sig (growR sig (u ++ v)) c = growR sig v ++ growStep sig (growR sig u) c
    rw [ih]
    unfold growStep
    by_cases hc : c < 0
    · rw [if_pos hc, if_pos hc, List.append_assoc]
    · rw [if_neg hc, if_neg hc]
      obtain ⟨_, h2⟩ := grow_code ha p c u 1 0 (by omega) (by rw [h]; simp) hc
      rw [List.length_append, show (growR sig v).length + (growR sig u).length - arN sig c = (growR sig v).length + ((growR sig u).length - arN sig c) by omega, List.take_length_add_append, List.drop_length_add_append, List.append_assoc]

/-- The trees of terms one behind the other. -/
theorem grow_flat {sig : List Sy} (ha : ArOk sig) : ∀ us : List (List Int), (∀ u ∈ us, rowE sig u = 0) → (growR sig us.flatten).reverse.map Tr.size = us.map List.length
  | [], _ => by simp [growR]
  | u :: us, h => by
    obtain ⟨T, h1, h2⟩ := grow_one ha (h u (by simp))
    have h3 := grow_behind ha us.flatten u [] (by rw [List.nil_append]; exact row_first.1 (h u (by simp)))
    rw [List.flatten_cons, h3, h1, List.reverse_append, List.map_append, grow_flat ha us (fun x hx => h x (by simp [hx]))]
    simp [h2]

/-- Places by lengths. -/
def places : Nat → List Nat → List Int
  | _, [] => []
  | p, n :: ns => (p : Int) :: places (p + n) ns

theorem kids_places : ∀ (p : Nat) (ts : List Tr), kidsGo p ts = places p (ts.map Tr.size)
  | _, [] => rfl
  | p, t :: ts => by simp only [kidsGo, List.map_cons, places, kids_places (p + t.size) ts]

theorem places_len : ∀ (p : Nat) (ns : List Nat), (places p ns).length = ns.length
  | _, [] => rfl
  | p, n :: ns => by simp only [places, List.length_cons, places_len (p + n) ns]

theorem places_at : ∀ (us : List (List Int)) (p k : Nat), k < us.length → (places p (us.map List.length))[k]? = some ((p + (us.take k).flatten.length : Nat) : Int)
  | [], _, k, h => by simp at h
  | u :: us, p, 0, _ => by simp [places]
  | u :: us, p, k + 1, h => by
    rw [List.map_cons, places, List.getElem?_cons_succ, places_at us (p + u.length) k (by simpa using h), List.take_succ_cons, List.flatten_cons, List.length_append]
    simp only [Option.some.injEq]
    omega

/-- A symbol's arguments. -/
theorem kids_split {sig : List Sy} (ha : ArOk sig) {c : Int} {r : List Int} (h : rowE sig (c :: r) = 0) (hc : ¬ c < 0) :
    ∃ us : List (List Int), r = us.flatten ∧ (∀ u ∈ us, rowE sig u = 0) ∧ ∃ T, growR sig (c :: r) = [T] ∧ kidsR 0 T = places 1 (us.map List.length) := by
  have h1 := row_first.1 h
  rw [firstT_cons] at h1
  cases hd : codeD sig c with
  | none => rw [hd] at h1; simp at h1
  | some e =>
    rw [hd] at h1
    simp only at h1
    obtain ⟨k1, _⟩ := codeD_ar ha hd hc
    obtain ⟨us, u1, u2, u3⟩ : ∃ us : List (List Int), us.length = arN sig c ∧ r = us.flatten ∧ ∀ u ∈ us, rowE sig u = 0 := by
      by_cases h0 : 1 + e = 0
      · rw [if_pos h0] at h1
        have hl : r.length = 0 := by
          have := congrArg Prod.fst h1
          simp at this
          omega
        exact ⟨[], by simp; omega, by rw [List.eq_nil_of_length_eq_zero hl]; rfl, fun u hu => by cases hu⟩
      · rw [if_neg h0, show (1 : Int) + e = (arN sig c : Int) by omega] at h1
        exact split_first ha _ r (0 + 1) (by omega) (by rw [h1]; simp only [List.length_cons, Prod.mk.injEq, and_true]; omega)
    have hg := grow_flat ha us u3
    have hl : (growR sig r).length = arN sig c := by
      have := congrArg List.length hg
      rw [List.length_map, List.length_map, List.length_reverse, ← u2] at this
      omega
    refine ⟨us, u2, u3, .app (growR sig r).reverse, ?_, ?_⟩
    · show growStep sig (growR sig r) c = _
      unfold growStep
      rw [if_neg hc, hl, Nat.sub_self, List.take_zero, List.drop_zero, List.nil_append]
    · rw [kidsR, kids_places, u2, hg]

theorem term_parts {sig : List Sy} {t : List Int} (h : termE sig t = 0) : sigE sig = 0 ∧ rowE sig t = 0 := by
  unfold termE at h
  by_cases hs : sigE sig = 0
  · rw [if_pos hs] at h; exact ⟨hs, h⟩
  · rw [if_neg hs] at h; exact absurd h hs

/-- The term that stands at a place. -/
theorem sub_at {sig : List Sy} {t p u q : List Int} (ht : termE sig t = 0) (hu : rowE sig u = 0) (he : t = p ++ (u ++ q)) : placeE sig t p.length = 0 ∧ subL sig t p.length = u := by
  have ha := sigE_ok (term_parts ht).1
  have h1 := first_app ha u 1 0 (by omega) (by rw [row_first.1 hu]; simp) 1 0 q (by omega)
  rw [if_pos rfl] at h1
  have hul : 0 < u.length := by
    cases u with
    | nil => simp [rowE, firstT] at hu
    | cons c u => simp
  have h2 : endP sig t p.length = (((p.length + u.length : Nat) : Int), 0) := by
    unfold endP
    rw [if_neg (by rw [he, List.length_append, List.length_append]; omega), Int.toNat_natCast, he, List.drop_left, h1]
    simp only [Prod.mk.injEq, and_true]
    omega
  have h3 : placeE sig t p.length = 0 := by unfold placeE; rw [if_pos ht, h2]
  refine ⟨h3, ?_⟩
  unfold subL
  rw [if_pos h3, h2, Int.toNat_natCast, Int.toNat_natCast, show p.length + u.length - p.length = u.length by omega, he, List.drop_left, List.take_left]

/-- The arguments of a right term's root. -/
theorem root_kids {sig : List Sy} {c : Int} {r : List Int} (ht : termE sig (c :: r) = 0) (hc : ¬ c < 0) :
    placeE sig (c :: r) 0 = 0 ∧ ∃ us : List (List Int), r = us.flatten ∧ (∀ u ∈ us, rowE sig u = 0) ∧ kidsL sig (c :: r) 0 = places 1 (us.map List.length) := by
  obtain ⟨hs, hr⟩ := term_parts ht
  obtain ⟨h1, h2⟩ := sub_at (p := []) (q := []) ht hr (by simp)
  obtain ⟨us, u1, u2, T, u3, u4⟩ := kids_split (sigE_ok hs) hr hc
  refine ⟨h1, us, u1, u2, ?_⟩
  have h3 : subL sig (c :: r) 0 = c :: r := h2
  unfold kidsL
  rw [h3, u3]
  exact u4

/-- Where a substitution meets none of the variables, nothing is done. -/
theorem laid_unmet (f : Int → Option (List Int)) (t : List Int) (h : ∀ c ∈ t, c < 0 → f (-1 - c) = none) : laidL f t = t := by
  unfold laidL
  induction t with
  | nil => rfl
  | cons c t ih =>
    rw [List.flatMap_cons, ih (fun x hx => h x (by simp [hx]))]
    have : piece f c = [c] := by
      unfold piece
      by_cases hc : c < 0
      · simp [hc, h c (by simp) hc]
      · simp [hc]
    rw [this]
    rfl

end Go.Proofs.YtfeeafkfjngemaaDoor

/- checkRule, Check and isRight of package system walked. -/
namespace Go.Proofs.YtfeeafkfjngemaaDoor
open Go.RowKit Go.Maps Go.BigFrame

theorem row_posS {sig : List Sy} {u : List Int} (h : rowE sig u = 0) : 0 < u.length := by
  cases u with
  | nil => simp [rowE, firstT] at h
  | cons c u => simp

/-- A rule: its sides. -/
abbrev Rl := List Int × List Int

/-- What is wrong with a rule, of a signature that may be. -/
def ruleE (sig : List Sy) (r : Rl) : Int :=
  if termE sig r.1 = 0 then (if termE sig r.2 = 0 then (if 512 < r.1.length ∨ 512 < r.2.length then 2 else if (r.1[0]?).getD 0 < 0 then 71 else if freeB r.1 r.2 then 72 else 0) else termE sig r.2) else termE sig r.1

set_option maxRecDepth 100000 in
set_option maxHeartbeats 1600000 in
theorem checkRule_any (sv lv rv : Value) (sig : List Sy) (l r : List Int) (w : World) (hs : Sg w sv sig) (hl : Is w lv l) (hr : Is w rv r) (hT : Tabs w) (h1 : l.length * 8 ≤ 140737488351232) (h2 : r.length * 8 ≤ 140737488351232) :
    Calls Tryd.prog 16 #[sv, .agg #[lv, rv]] w fun e w' => e = .returned (.int .i64 (ruleE sig (l, r))) ∧ Below w.heap.size w w' := by
  obtain ⟨a1, c1, e1, _⟩ := hl.flatI
  subst e1
  obtain ⟨a2, c2, e2, _⟩ := hr.flatI
  subst e2
  have HS := hid hs
  have HL := hid hl
  have HR := hid hr
  have HT := hid hT
  clear hs hl hr hT
  obtain ⟨w0, hw0⟩ : ∃ X, X = w.alloc (.cells #[.slice a1 l.length c1, .slice a2 r.length c2] 37) := ⟨_, rfl⟩
  have C0 : Hid (Below w.heap.size w w0) := by rw [hw0]; exact below_alloc _
  have HC : Hid (∀ W, Below w0.heap.size w0 W → W.cell? ⟨w.heap.size, 0, none⟩ = some (.slice a1 l.length c1) ∧ W.cell? ⟨w.heap.size, 1, none⟩ = some (.slice a2 r.length c2)) := fun W hW => by
    have hk := Kp.of_below hW
    rw [hw0] at hk
    exact ⟨hk.cell _ _ (cell_new rfl), hk.cell _ _ (cell_new rfl)⟩
  obtain ⟨E, hE⟩ : ∃ E, E = ruleE sig (l, r) := ⟨_, rfl⟩
  have HE := hid hE
  rw [← hE]
  clear hE
  unfold ruleE at HE
  go_enter Tryd.func16, Tryd.ntmps16
  go_wp2_with fail
  rw [← hw0]
  clear hw0
  refine (check_any sv _ sig l w0 (HS.out.kp (Kp.of_below C0.out)) (HL.out.kp (Kp.of_below C0.out)) (HT.out.below C0.out) h1).mono ?_
  rintro e w1 ⟨rfl, hb1⟩
  have C1 := hid (below_step C0.out hb1)
  have D1 := hid hb1
  clear hb1
  by_cases hel : termE sig l = 0
  · rw [hel]
    have HEl := hid hel
    rw [if_pos hel] at HE
    clear hel
    obtain ⟨x0, x1⟩ := HC.out w1 D1.out
    go_wp2_with fail
    refine (check_any sv _ sig r w1 (HS.out.kp (Kp.of_below C1.out)) (HR.out.kp (Kp.of_below C1.out)) (HT.out.below C1.out) h2).mono ?_
    rintro e w2 ⟨rfl, hb2⟩
    have C2 := hid (below_step C1.out hb2)
    have D2 := hid (below_step D1.out hb2)
    clear hb2 x0 x1
    by_cases her : termE sig r = 0
    · rw [her]
      rw [if_pos her] at HE
      clear her
      obtain ⟨x0, x1⟩ := HC.out w2 D2.out
      have hlp := row_posS (term_parts HEl.out).2
      obtain ⟨gl, ol, c, rfl, hc, hcx, _, _⟩ := (HL.out.kp (Kp.of_below C2.out)).at hlp
      rw [hc] at HE
      simp only [Option.getD_some] at HE
      rw [Nat.add_zero] at hcx
      by_cases hb1 : 512 < l.length
      · have hd1 : decide ((512 : Int) < (l.length : Int)) = true := by simpa using (show (512 : Int) < (l.length : Int) by omega)
        rw [if_pos (.inl hb1)] at HE
        go_wp2
        go_ret
        exact ⟨ret1i HE.out.symm, C2.out⟩
      · have hd1 : decide ((512 : Int) < (l.length : Int)) = false := by simpa using (show ¬ (512 : Int) < (l.length : Int) by omega)
        by_cases hb2 : 512 < r.length
        · have hd2 : decide ((512 : Int) < (r.length : Int)) = true := by simpa using (show (512 : Int) < (r.length : Int) by omega)
          rw [if_pos (.inr hb2)] at HE
          go_wp2
          go_ret
          exact ⟨ret1i HE.out.symm, C2.out⟩
        · have hd2 : decide ((512 : Int) < (r.length : Int)) = false := by simpa using (show ¬ (512 : Int) < (r.length : Int) by omega)
          rw [if_neg (by omega)] at HE
          by_cases h0 : c < 0
          · rw [if_pos h0] at HE
            have hd0 : decide (c < 0) = true := by simpa using h0
            clear hc
            go_wp2
            go_ret
            exact ⟨ret1i HE.out.symm, C2.out⟩
          · rw [if_neg h0] at HE
            have hd0 : decide (c < 0) = false := by simpa using h0
            clear hc
            go_wp2_with fail
            refine (hasFree_any _ _ l r w2 (HL.out.kp (Kp.of_below C2.out)) (HR.out.kp (Kp.of_below C2.out)) h1 h2).mono ?_
            rintro e w3 ⟨rfl, hb3⟩
            have C3 := hid (below_step C2.out hb3)
            clear hb3 x0 x1 hcx
            cases hf : freeB l r with
            | true =>
              rw [hf, if_pos rfl] at HE
              go_wp2
              go_ret
              exact ⟨ret1i HE.out.symm, C3.out⟩
            | false =>
              rw [hf, if_neg (by simp)] at HE
              go_wp2
              go_ret
              exact ⟨ret1i HE.out.symm, C3.out⟩
    · rw [if_neg her] at HE
      generalize termE sig r = T at her HE ⊢
      have hne : (T != 0) = true := by simpa using her
      go_wp2
      go_ret
      exact ⟨ret1i HE.out.symm, C2.out⟩
  · rw [if_neg hel] at HE
    generalize termE sig l = T at hel HE ⊢
    have hne : (T != 0) = true := by simpa using hel
    go_wp2
    go_ret
    exact ⟨ret1i HE.out.symm, C1.out⟩

/-- A rule at an address. -/
def EU (w : World) (g o : Nat) (r : Rl) : Prop := r.1.length * 8 ≤ 140737488351232 ∧ r.2.length * 8 ≤ 140737488351232 ∧ ∃ v1 v2, w.cell? ⟨g, o, none⟩ = some v1 ∧ w.cell? ⟨g, o + 1, none⟩ = some v2 ∧ Is w v1 r.1 ∧ Is w v2 r.2

theorem EU.kp {w w' : World} (hk : Kp w w') (g o : Nat) (r : Rl) (h : EU w g o r) : EU w' g o r := by
  obtain ⟨h1, h2, v1, v2, h3, h4, h5, h6⟩ := h
  exact ⟨h1, h2, v1, v2, hk.cell _ _ h3, hk.cell _ _ h4, h5.kp hk, h6.kp hk⟩

/-- A row of rules. -/
def RU (w : World) (v : Value) (rs : List Rl) : Prop := Row EU 2 w v rs

theorem RU.kp {w w' : World} {v : Value} {rs : List Rl} (h : RU w v rs) (hk : Kp w w') : RU w' v rs := Row.imp h hk.size (EU.kp hk)

theorem RU.at {w : World} {ao : Option Addr} {n cap : Nat} {rs : List Rl} (h : RU w (.slice ao n cap) rs) {k : Nat} (hk : k < rs.length) :
    ∃ g off l r a1 c1 a2 c2, ao = some ⟨g, off, none⟩ ∧ rs[k]? = some (l, r) ∧ w.cell? ⟨g, off + k * 2, none⟩ = some (.slice a1 l.length c1) ∧ w.cell? ⟨g, off + k * 2 + 1, none⟩ = some (.slice a2 r.length c2) ∧
      Is w (.slice a1 l.length c1) l ∧ Is w (.slice a2 r.length c2) r ∧ l.length * 8 ≤ 140737488351232 ∧ r.length * 8 ≤ 140737488351232 := by
  obtain ⟨ao', cap', hv, _, _, hx⟩ := Row.flat h
  simp only [Value.slice.injEq] at hv
  obtain ⟨rfl, rfl, rfl⟩ := hv
  obtain ⟨g, off, ⟨l, r⟩, rfl, hm, h1, h2, v1, v2, h3, h4, h5, h6⟩ := hx k hk
  obtain ⟨a1, c1, rfl, _⟩ := Row.flat h5
  obtain ⟨a2, c2, rfl, _⟩ := Row.flat h6
  exact ⟨g, off, l, r, a1, c1, a2, c2, rfl, hm, h3, h4, h5, h6, h1, h2⟩

/-- What is wrong with rules, and with which, from a place on. -/
def rulesGo (sig : List Sy) : Nat → List Rl → Int × Int
  | _, [] => (0, 0)
  | k, r :: rs => if ruleE sig r = 0 then rulesGo sig (k + 1) rs else (ruleE sig r, k)

/-- What is wrong with a system, and with which rule. -/
def sysE (sig : List Sy) (rs : List Rl) : Int × Int := if aheadE sig rs.length = 0 then rulesGo sig 0 rs else (aheadE sig rs.length, -1)

theorem ret2ii {a b c d : Int} (h : (a, c) = (b, d)) : Ending.returned (.tuple #[.int .i64 a, .int .i64 c]) = .returned (.tuple #[.int .i64 b, .int .i64 d]) := by cases h; rfl

set_option maxRecDepth 100000 in
set_option maxHeartbeats 1600000 in
theorem sysCheck_any (sv rv : Value) (sig : List Sy) (rs : List Rl) (w : World) (hs : Sg w sv sig) (hr : RU w rv rs) (hT : Tabs w) :
    Calls Tryd.prog 6 #[.agg #[sv, rv]] w fun e w' => e = .returned (.tuple #[.int .i64 (sysE sig rs).1, .int .i64 (sysE sig rs).2]) ∧ Below w.heap.size w w' := by
  obtain ⟨so, sc, rfl, hso, hsc, _⟩ := Row.flat hs
  obtain ⟨ro, rc, rfl, hro, hrc, _⟩ := Row.flat hr
  unfold maxLen at hsc hrc
  have HS := hid hs
  have HR := hid hr
  have HT := hid hT
  clear hs hr hT
  obtain ⟨w0, hw0⟩ : ∃ X, X = w.alloc (.cells #[.slice so sig.length sc, .slice ro rs.length rc] 25) := ⟨_, rfl⟩
  have C0 : Hid (Below w.heap.size w w0) := by rw [hw0]; exact below_alloc _
  have HC : Hid (∀ W, Below w0.heap.size w0 W → W.cell? ⟨w.heap.size, 0, none⟩ = some (.slice so sig.length sc) ∧ W.cell? ⟨w.heap.size, 1, none⟩ = some (.slice ro rs.length rc)) := fun W hW => by
    have hk := Kp.of_below hW
    rw [hw0] at hk
    exact ⟨hk.cell _ _ (cell_new rfl), hk.cell _ _ (cell_new rfl)⟩
  obtain ⟨E, hE⟩ : ∃ E, E = sysE sig rs := ⟨_, rfl⟩
  have HE := hid hE
  rw [← hE]
  clear hE
  unfold sysE at HE
  obtain ⟨x0, x1⟩ := HC.out w0 (Below.refl _ _)
  go_enter Tryd.func6, Tryd.ntmps6
  go_wp2_with fail
  rw [← hw0]
  clear hw0
  refine (checkAhead_any _ ro rs.length rc sig w0 (HS.out.kp (Kp.of_below C0.out)) (HT.out.below C0.out) (by omega)).mono ?_
  rintro e w1 ⟨rfl, hb1⟩
  have C1 := hid (below_step C0.out hb1)
  have D1 := hid hb1
  clear hb1 x0 x1
  by_cases hea : aheadE sig rs.length = 0
  · rw [hea]
    rw [if_pos hea] at HE
    clear hea
    obtain ⟨x0, x1⟩ := HC.out w1 D1.out
    go_wp2
    go_loopw [16] (fun iv wr => ∃ k : Nat, k ≤ rs.length ∧ iv = .int .i64 k ∧ rulesGo sig 0 rs = rulesGo sig k (rs.drop k) ∧ Below w0.heap.size w0 wr) (fun iv _ => rs.length - (intOf iv).toNat)
    case atStart => exact ⟨0, Nat.zero_le _, rfl, rfl, D1.out⟩
    case round =>
      obtain ⟨k, hk, rfl, hgo, hbl⟩ := hrel
      have HG := hid hgo
      have HB := hid hbl
      have CB := hid (below_step C0.out hbl)
      obtain ⟨z0, z1⟩ := HC.out wr hbl
      clear hgo hbl x0 x1
      by_cases hlt : k < rs.length
      · obtain ⟨g, off, l, r, a1, c1, a2, c2, rfl, hm, hc0, hc1, hi1, hi2, hl1, hl2⟩ := (HR.out.kp (Kp.of_below CB.out)).at hlt
        have HD : Hid (E = if ruleE sig (l, r) = 0 then rulesGo sig (k + 1) (rs.drop (k + 1)) else (ruleE sig (l, r), (k : Int))) := by
          show _ = _
          rw [HE.out, HG.out, drop_get hm]
          rfl
        have HI1 := hid hi1
        have HI2 := hid hi2
        have hgw : g < wr.heap.size := World.block_lt_of_cell? _ _ hc0
        have y0 := cell_old (o := .cells #[.slice a1 l.length c1, .slice a2 r.length c2] 37) z0
        obtain ⟨W, hW⟩ : ∃ X, X = wr.alloc (.cells #[.slice a1 l.length c1, .slice a2 r.length c2] 37) := ⟨_, rfl⟩
        have BW : Hid (Below wr.heap.size wr W) := by rw [hW]; exact below_alloc _
        clear hm hi1 hi2
        go_wp2_with fail
        rw [← hW]
        rw [← hW] at y0
        clear hW
        have CW := hid (below_step CB.out BW.out)
        refine (checkRule_any _ _ _ sig l r W (HS.out.kp (Kp.of_below CW.out)) (HI1.out.kp (Kp.of_below BW.out)) (HI2.out.kp (Kp.of_below BW.out)) (HT.out.below CW.out) hl1 hl2).mono ?_
        rintro e w3 ⟨rfl, hb3⟩
        have HB3 := hid (below_step HB.out (below_step BW.out hb3))
        clear hb3 y0 z0 z1 hc0 hc1
        by_cases her : ruleE sig (l, r) = 0
        · rw [her]
          have HN : Hid (rulesGo sig 0 rs = rulesGo sig (k + 1) (rs.drop (k + 1))) := by
            show _ = _
            rw [← HE.out, HD.out, if_pos her]
          clear her HD
          go_wp2
          go_roundw
          case rel => exact ⟨k + 1, hlt, by go_num, HN.out, HB3.out⟩
          case measure => simp only [intOf]; omega
        · have HN : Hid (E = (ruleE sig (l, r), (k : Int))) := by
            show _ = _
            rw [HD.out, if_neg her]
          generalize ruleE sig (l, r) = T at her HN ⊢
          have hne : (T != 0) = true := by simpa using her
          clear HD her
          go_wp2
          go_ret2
          exact ⟨ret2ii (a := T) (c := (k : Int)) (by rw [HN.out]), below_step C0.out HB3.out⟩
      · have HN : Hid (E = (0, 0)) := by
          show _ = _
          rw [HE.out, HG.out, List.drop_of_length_le (by omega)]
          rfl
        clear z0 z1
        go_wp2
        go_ret2
        exact ⟨ret2ii (a := 0) (c := 0) (by rw [HN.out]), CB.out⟩
  · rw [if_neg hea] at HE
    generalize aheadE sig rs.length = T at hea HE ⊢
    have hne : (T != 0) = true := by simpa using hea
    go_wp2
    go_ret2
    exact ⟨ret2ii (a := T) (c := -1) (by rw [HE.out]), C1.out⟩

/-- Whether a system is right. -/
def sysB (sig : List Sy) (rs : List Rl) : Bool := decide ((sysE sig rs).1 = 0)

set_option maxRecDepth 100000 in
theorem isRight_any (sv rv : Value) (sig : List Sy) (rs : List Rl) (w : World) (hs : Sg w sv sig) (hr : RU w rv rs) (hT : Tabs w) :
    Calls Tryd.prog 19 #[.agg #[sv, rv]] w fun e w' => e = .returned (.bool (sysB sig rs)) ∧ Below w.heap.size w w' := by
  obtain ⟨so, sc, rfl, hso, hsc, _⟩ := Row.flat hs
  obtain ⟨ro, rc, rfl, hro, hrc, _⟩ := Row.flat hr
  have HS := hid hs
  have HR := hid hr
  have HT := hid hT
  clear hs hr hT
  obtain ⟨w0, hw0⟩ : ∃ X, X = w.alloc (.cells #[.slice so sig.length sc, .slice ro rs.length rc] 25) := ⟨_, rfl⟩
  have C0 : Hid (Below w.heap.size w w0) := by rw [hw0]; exact below_alloc _
  go_enter Tryd.func19, Tryd.ntmps19
  go_wp2_with fail
  rw [← hw0]
  clear hw0
  refine (sysCheck_any _ _ sig rs w0 (HS.out.kp (Kp.of_below C0.out)) (HR.out.kp (Kp.of_below C0.out)) (HT.out.below C0.out)).mono ?_
  rintro e w1 ⟨rfl, hb1⟩
  have C1 := hid (below_step C0.out hb1)
  clear hb1
  obtain ⟨E, hE⟩ : ∃ E, E = sysE sig rs := ⟨_, rfl⟩
  have HB : Hid (sysB sig rs = decide (E.1 = 0)) := by rw [hE]; rfl
  rw [← hE]
  clear hE
  by_cases h0 : E.1 = 0
  · have hb : (E.1 == 0) = true := by rw [beq_iff_eq]; exact h0
    have HB2 : Hid (sysB sig rs = true) := by show _ = _; rw [HB.out, decide_eq_true h0]
    clear h0 HB
    go_wp2
    go_ret
    exact ⟨ret1b HB2.out.symm, C1.out⟩
  · have hb : (E.1 == 0) = false := by rw [beq_eq_false_iff_ne]; exact h0
    have HB2 : Hid (sysB sig rs = false) := by show _ = _; rw [HB.out, decide_eq_false h0]
    clear h0 HB
    go_wp2
    go_ret
    exact ⟨ret1b HB2.out.symm, C1.out⟩

end Go.Proofs.YtfeeafkfjngemaaDoor

/- Maps whose keys are shapes. -/
namespace Go.Proofs.YtfeeafkfjngemaaDoor
open Go.RowKit Go.Maps

/-- A shape: the root and the sides' lengths. -/
abbrev Sh := Int × Int × Int

def shV (k : Sh) : Value := .agg #[.int .i64 k.1, .int .i64 k.2.1, .int .i64 k.2.2]

def In64 (x : Int) : Prop := -9223372036854775808 ≤ x ∧ x ≤ 9223372036854775807

def ShOk (k : Sh) : Prop := In64 k.1 ∧ In64 k.2.1 ∧ In64 k.2.2

theorem rowShape : (62 : TypeId) < Tryd.prog.types.size := of_decide_eq_true (by kernel_rfl)

theorem shape_fields : (match Tryd.prog.underlying 62 with | some (.struct fs) => fs.all (fun f => f.name != "_") && decide (fs.toList.map (fun f => (f.type, f.offset)) = [(3, 0), (3, 1), (3, 2)]) | _ => false) = true := by kernel_rfl

theorem wideShape : (match Tryd.prog.underlying 62 with | some (.array _ _) | some (.struct _) => true | _ => false) = true := by kernel_rfl

set_option maxRecDepth 100000 in
theorem shapeLaw : WideMaps.KeyLaw Tryd.prog 62 := deep_law_laid laidOut (m := 2) (by omega) rowShape (by kernel_rfl) wideShape

theorem shape_keyed : Keyed Tryd.prog 62 := Keyed.of_law shapeLaw

theorem under_groups : Tryd.prog.underlying 59 = some (.map 62 23) := by kernel_rfl

theorem zero_rules (w : World) : (zeroValue 23).run Tryd.prog w = .ok (.slice none 0 0) w := by kernel_rfl

/-- What a shape reads as. -/
def shL (k : Sh) : Lit := .string (keyBytes [.int .i64 k.1, .int .i64 k.2.1, .int .i64 k.2.2])

theorem wf64 {x : Int} (h : In64 x) : (Lit.int .i64 x).wf = true := by
  have e0 : IntKind.i64.min = -9223372036854775808 := by decide
  have e1 : IntKind.i64.max = 9223372036854775807 := by decide
  obtain ⟨h1, h2⟩ := h
  simp [Lit.wf, e0, e1]
  omega

theorem keyLits_int {d : Nat} {x : Int} (h : In64 x) : Tryd.prog.keyLits (d + 1) 3 [.int .i64 x] = some [.int .i64 x] := by
  unfold Program.keyLits
  simp only [Tryd.underlying3]
  rw [if_pos ⟨trivial, wf64 h⟩]

theorem keyOf_shape {k : Sh} (h : ShOk k) : keyOf Tryd.prog 62 (shV k) = some (shL k) := by
  have h1 : Tryd.prog.keyType 62 = true := by kernel_rfl
  have h2 : Tryd.prog.cellsOf 62 = 3 := by kernel_rfl
  have h3 : Tryd.prog.cellsOf 3 = 1 := by kernel_rfl
  have h5 : ∃ d, Tryd.prog.types.size + 1 = d + 1 + 1 := ⟨Tryd.prog.types.size - 1, by have : 1 ≤ Tryd.prog.types.size := of_decide_eq_true (by kernel_rfl); omega⟩
  have hsf := shape_fields
  cases hu : Tryd.prog.underlying 62 with
  | none => rw [hu] at hsf; cases hsf
  | some d0 =>
    rw [hu] at hsf
    cases d0 with
    | struct fs =>
      simp only [Bool.and_eq_true, decide_eq_true_eq] at hsf
      obtain ⟨hall, hmap⟩ := hsf
      have hf : (shV k).formed Tryd.prog 62 = true := by
        unfold shV
        simp only [Value.formed, hu, h2]
        rfl
      obtain ⟨d, hd⟩ := h5
      have hk : Tryd.prog.keyLits (d + 1 + 1) 62 (shV k).cells.toList = some [.int .i64 k.1, .int .i64 k.2.1, .int .i64 k.2.2] := by
        unfold Program.keyLits
        simp only [hu]
        rw [if_pos ⟨by rw [h2]; rfl, hall⟩]
        obtain ⟨f0, f1, f2, hfs⟩ : ∃ f0 f1 f2, fs.toList = [f0, f1, f2] := by
          have hlen := congrArg List.length hmap
          rw [List.length_map] at hlen
          generalize fs.toList = l at hlen ⊢
          match l, hlen with
          | [f0, f1, f2], _ => exact ⟨f0, f1, f2, rfl⟩
        rw [hfs] at hmap ⊢
        simp only [List.map_cons, List.map_nil, List.cons.injEq, Prod.mk.injEq, and_true] at hmap
        obtain ⟨⟨t0, o0⟩, ⟨t1, o1⟩, t2, o2⟩ := hmap
        simp only [List.mapM_cons, List.mapM_nil, t0, o0, t1, o1, t2, o2, h3, shV, Value.cells, List.drop_zero, List.drop_succ_cons, List.take_succ_cons, List.take_zero]
        rw [keyLits_int h.1, keyLits_int h.2.1, keyLits_int h.2.2]
        rfl
      unfold keyOf
      simp only [hu, h1, hf, Bool.and_self, if_true]
      rw [hd, hk]
      rfl
    | _ => cases hsf

theorem shL_inj {a b : Sh} (ha : ShOk a) (hb : ShOk b) (h : shL a = shL b) : a = b := by
  have h1 := keyOf_shape ha
  rw [h] at h1
  have h2 := shape_keyed.inj h1 (keyOf_shape hb)
  unfold shV at h2
  obtain ⟨a0, a1, a2⟩ := a
  obtain ⟨b0, b1, b2⟩ := b
  simp only [Value.agg.injEq] at h2
  simpa using h2

/-- Block b of w is a map from shapes to values. -/
def MapF (w : World) (b n : Nat) (f : Sh → Option Value) : Prop :=
  ∃ D : DataW Value, w.ownsMap Tryd.prog 62 RV b n D ∧ (∀ k v, ShOk k → f k = some v → ∀ z, D.atKey (shL k) z = .held v) ∧ ∀ k, ShOk k → Maps.has D (shL k) = (f k).isSome

theorem MapF.isMap {w : World} {b n : Nat} {f : Sh → Option Value} (h : MapF w b n f) : ∃ es clock, w.heap[b]? = some (.map es clock) := by
  obtain ⟨D, ⟨es, clock, hb, _⟩, _⟩ := h
  exact ⟨es, clock, hb⟩

theorem MapF.kept {w w' : World} {b n : Nat} {f : Sh → Option Value} {row : Option Nat} (h : MapF w b n f) (hg : w.grownBy w' row) (hr : row ≠ some b) : MapF w' b n f := by
  obtain ⟨D, h1, h3, h4⟩ := h
  exact ⟨D, h1.kept hg (fun e => hr e.symm), h3, h4⟩

theorem MapF.later {w w' : World} {b n : Nat} {f : Sh → Option Value} (h : MapF w b n f) (hb : Below w.heap.size w w') : MapF w' b n f :=
  h.kept (grown_of_below hb none) (by simp)

theorem MapF.made (w : World) : MapF (w.alloc (.map #[] 0)) w.heap.size 0 (fun _ => none) :=
  ⟨DataW.map [], World.ownsMap_made w _ _ _, fun k v _ hk => (by cases hk), fun k _ => (by simp [Maps.has])⟩

theorem MapF.look {w : World} {b n : Nat} {f : Sh → Option Value} (h : MapF w b n f) {k : Sh} (hk : ShOk k) :
    (Instr.lookup 59 (.map (some b)) (shV k) false).run Tryd.prog w = .ok ((f k).getD (.slice none 0 0)) w := by
  obtain ⟨D, hD, ha, hh⟩ := h
  obtain ⟨v, ps, hrun, hv⟩ := hD.lookup shape_keyed under_groups (zero_rules w) (zd := .held (.slice none 0 0)) (zp := []) rfl (keyOf_shape hk)
  rw [hrun]
  have hv2 : D.atKey (shL k) (.held (.slice none 0 0)) = .held v := by
    simp only [RV, Option.some.injEq, Prod.mk.injEq] at hv
    exact hv.1.symm
  cases hl : f k with
  | none =>
    rw [atKey_of_not_has (by rw [hh k hk, hl]; rfl)] at hv2
    rw [DataW.held.inj hv2]
    rfl
  | some u =>
    rw [ha k u hk hl] at hv2
    rw [DataW.held.inj hv2]
    rfl

/-- A function with one value changed. -/
def setF (f : Sh → Option Value) (k : Sh) (v : Value) : Sh → Option Value := fun x => if x = k then some v else f x

theorem MapF.store {w : World} {b n : Nat} {f : Sh → Option Value} (h : MapF w b n f) {k : Sh} (hk : ShOk k) (hn : n < maxLen) (v : Value) :
    ∃ w', (Instr.mapUpdate 59 (.map (some b)) (shV k) v).run Tryd.prog w = .ok () w' ∧ MapF w' b (n + 1) (setF f k v) ∧ w.grownBy w' (some b) := by
  obtain ⟨D, hD, ha, hh⟩ := h
  have hT := hD.tidy shape_keyed
  have hK : WideAt.IsKeyLit (shL k) := shape_keyed.key (keyOf_shape hk)
  obtain ⟨w', hrun, r1, r2⟩ := hD.store shape_keyed under_groups hn (keyOf_shape hk) (val := v) (d := .held v) (ps := []) rfl
  refine ⟨w', hrun, ⟨D.put (shL k) (.held v), r1, fun k' v' hk' hl z => ?_, fun k' hk' => ?_⟩, r2.grown⟩
  · unfold setF at hl
    by_cases e : k' = k
    · subst e
      simp at hl
      subst hl
      exact atKey_put_same hT.isMap hK _ z
    · rw [if_neg e] at hl
      rw [atKey_put_other (fun h9 => e (shL_inj hk' hk h9))]
      exact ha k' v' hk' hl z
  · unfold setF
    by_cases e : k' = k
    · subst e
      rw [has_put_same hT.isMap hK, if_pos rfl]
      rfl
    · rw [has_put_other (fun h9 => e (shL_inj hk' hk h9)), hh k' hk', if_neg e]

theorem MapF.of_block {w w' : World} {b n : Nat} {f : Sh → Option Value} (h : MapF w b n f) (hb : w'.heap[b]? = w.heap[b]?) : MapF w' b n f := by
  obtain ⟨D, ⟨es, clock, h1, h2⟩, h3⟩ := h
  exact ⟨D, ⟨es, clock, hb.trans h1, h2⟩, h3⟩

theorem grown_setBlock {w : World} {b : Nat} {es : Array MapEntry} {clock : Nat} (hb : w.heap[b]? = some (.map es clock)) (o : Obj) : w.grownBy (ChangeMaps.setBlock w b o) (some b) := by
  refine ⟨rfl, rfl, rfl, by simp [ChangeMaps.setBlock], fun k hk hne => ?_⟩
  exact ChangeMaps.heap_setBlock_other hb o (fun e => hne (by rw [e]))

theorem entry_one {es : Array MapEntry} {clock : Nat} (h : MapKept.Stamped es clock) {x y : MapEntry} (hx : x ∈ es.toList) (hy : y ∈ es.toList) (hk : x.key = y.key) : x = y := by
  have hn := h.2.2
  obtain ⟨i, hi, rfl⟩ := List.getElem_of_mem hx
  obtain ⟨j, hj, rfl⟩ := List.getElem_of_mem hy
  have h1 := (List.getElem_inj hn (h₀ := by rw [List.length_map]; exact hi) (h₁ := by rw [List.length_map]; exact hj)).1 (by rw [List.getElem_map, List.getElem_map]; exact hk)
  subst h1
  rfl

/-- An entry that is looked up, and stored into behind. -/
theorem MapF.entry {w : World} {b n : Nat} {f : Sh → Option Value} (h : MapF w b n f) {k : Sh} (hk : ShOk k) (hn : n < maxLen) :
    ∃ (st : Nat) (w1 : World), (Instr.mapEntry 59 (.map (some b)) (shV k)).run Tryd.prog w = .ok (.tuple #[(f k).getD (.slice none 0 0), goInt st]) w1 ∧ w.grownBy w1 (some b) ∧ (∃ es clock, w1.heap[b]? = some (.map es clock)) ∧
      ∀ (w2 : World) (v : Value), w2.heap[b]? = w1.heap[b]? → ∃ w3, (Instr.entryStore 59 (.map (some b)) (goInt st) v).run Tryd.prog w2 = .ok () w3 ∧ MapF w3 b (n + 1) (setF f k v) ∧ w2.grownBy w3 (some b) := by
  have hlk := h.look hk
  have hst := fun v => h.store hk hn v
  obtain ⟨D, ⟨es, clock, hb, F, hs, hD⟩, ha, hh⟩ := h
  obtain ⟨v0, st, es1, clock1, hrun, hv0, hrest⟩ := WideElems.entry_then_store (P := Tryd.prog) shapeLaw under_groups (fun u => zero_rules u) hb F (keyOf_shape hk)
  have hv : v0 = (f k).getD (.slice none 0 0) := by
    rcases fit_look false shape_keyed under_groups (zero_rules w) hb F (keyOf_shape hk) with ⟨hr, hno, _⟩ | ⟨e0, y, he0, hek, hr, _, _, _⟩
    · rw [hr] at hlk
      simp only [Result.ok.injEq, and_true] at hlk
      rcases hv0 with ⟨e1, he1, hk1, _⟩ | ⟨_, rfl⟩
      · exact absurd hk1 (hno e1 he1)
      · simpa using hlk
    · rw [hr] at hlk
      simp only [Result.ok.injEq, and_true] at hlk
      rcases hv0 with ⟨e1, he1, hk1, rfl⟩ | ⟨hno, _⟩
      · have hee : e1 = e0 := entry_one F.stamped he1 he0 (hk1.trans hek.symm)
        rw [hee]
        simpa using hlk
      · exact absurd hek (hno e0 he0)
  rw [hv] at hrun
  refine ⟨st, _, hrun, ?_, ⟨_, _, ChangeMaps.heap_setBlock_same hb _⟩, fun w2 v hw2 => ?_⟩
  · exact grown_setBlock hb _
  · rw [ChangeMaps.heap_setBlock_same hb] at hw2
    obtain ⟨es', clock', hr1, hr2⟩ := hrest w2 v hw2
    obtain ⟨w', hr3, hm3, _⟩ := hst v
    rw [hr2] at hr3
    simp only [Result.ok.injEq, true_and] at hr3
    subst hr3
    refine ⟨_, hr1, hm3.of_block ?_, grown_setBlock hw2 _⟩
    rw [ChangeMaps.heap_setBlock_same hw2, ChangeMaps.heap_setBlock_same hb]

end Go.Proofs.YtfeeafkfjngemaaDoor

/- Rows of trees of package match: cloned, turned round. -/
namespace Go.Proofs.YtfeeafkfjngemaaDoor
open Go.RowKit Go.Maps

end Go.Proofs.YtfeeafkfjngemaaDoor

/- Trees of package match in memory; apply. -/
namespace Go.Proofs.YtfeeafkfjngemaaDoor
open Go.RowKit Go.Maps

/-- The codes from a place on. -/
def cdS (b o c : Nat) (p n : Nat) : Value := .slice (some ⟨b, o + p, none⟩) n (c - p)

end Go.Proofs.YtfeeafkfjngemaaDoor

/- The tree of a right term, of package match: where grow stands. -/
namespace Go.Proofs.YtfeeafkfjngemaaDoor
open Go.RowKit Go.Maps Go.Shelf

attribute [local go_sem] Oper.semAt_some

end Go.Proofs.YtfeeafkfjngemaaDoor

/- grow of package match walked. -/
namespace Go.Proofs.YtfeeafkfjngemaaDoor
open Go.RowKit Go.Maps Go.Shelf

attribute [local go_sem] Oper.semAt_some

theorem rev_take {α : Type} (l : List α) {r : Nat} (_hr : r ≤ l.length) : (l.drop r).reverse = l.reverse.take (l.length - r) := by
  have e1 : l.reverse = (l.drop r).reverse ++ (l.take r).reverse := by rw [← List.reverse_append, List.take_append_drop]
  rw [e1, show l.length - r = (l.drop r).reverse.length by rw [List.length_reverse, List.length_drop], List.take_left]

end Go.Proofs.YtfeeafkfjngemaaDoor

/- bindAlike and argumentPairs walked. -/
namespace Go.Proofs.YtfeeafkfjngemaaDoor
open Go.RowKit Go.Maps Go.BigFrame

set_option maxHeartbeats 400000 in
theorem equalI_any (v u : Value) (xs ys : List Int) (w : World) (h : Is w v xs) (h' : Is w u ys) :
    Calls Tryd.prog 65 #[v, u] w fun e w' => e = .returned (.bool (decide (xs = ys))) ∧ ∃ n, w' = w.drewN n := by
  obtain ⟨ao, cap, rfl, hao, hca, hcl⟩ := h.flatI
  obtain ⟨bo, cap', rfl, hbo, hcb, hcl'⟩ := h'.flatI
  clear h h'
  by_cases hl : xs.length = ys.length
  · have hle : ((xs.length : Int) != ys.length) = false := by simp; omega
    go_enter Tryd.func65, Tryd.ntmps65
    go_wp2
    go_loopw [13] (fun i wr => ∃ k : Nat, k ≤ xs.length ∧ i = .int .i64 k ∧ xs.take k = ys.take k ∧ ∃ n, wr = w.drewN n) (fun i _ => xs.length - (intOf i).toNat)
    case atStart => exact ⟨0, Nat.zero_le _, rfl, rfl, 0, rfl⟩
    case round =>
      obtain ⟨k, hk, rfl, ht, n, rfl⟩ := hrel
      have HT : Hid (xs.take k = ys.take k) := ht
      clear ht
      by_cases hlt : k < xs.length
      · obtain ⟨g, off, x, rfl, hx1, hx3⟩ := hcl k hlt
        obtain ⟨g', off', y, rfl, hy1, hy3⟩ := hcl' k (by omega)
        have HX : Hid (xs[k]? = some x) := hx1
        have HY : Hid (ys[k]? = some y) := hy1
        have hlt' : k < ys.length := by omega
        clear hx1 hy1 hcl hcl'
        by_cases hxy : x = y
        · subst hxy
          have hxx : (x != x) = false := by simp
          go_wp2
          go_quiet (fail)
          go_wp2
          go_roundw
          case rel => exact ⟨k + 1, by omega, by go_num, by rw [take_get HX.out, take_get HY.out, HT.out], _, rfl⟩
          case measure => simp [intOf]; omega
        · have hne : (x != y) = true := by rw [bne_iff_ne]; exact hxy
          go_wp2
          go_quiet (fail)
          go_wp2
          go_ret
          exact ⟨ret1b (by rw [eq_comm, decide_eq_false_iff_not]; rintro rfl; have := HX.out.symm.trans HY.out; simp at this; exact hxy this), _, World.drewN_drewN _ _ _⟩
      · have hk' : k = xs.length := by omega
        go_wp2
        go_ret
        refine ⟨ret1b ?_, n, rfl⟩
        have := HT.out
        rw [List.take_of_length_le (by omega), List.take_of_length_le (by omega)] at this
        simp [this]
  · have hle : ((xs.length : Int) != ys.length) = true := by rw [bne_iff_ne]; omega
    go_enter Tryd.func65, Tryd.ntmps65
    go_wp2
    go_ret
    exact ⟨ret1b (by rw [eq_comm, decide_eq_false_iff_not]; rintro rfl; exact hl rfl), 0, rfl⟩

/-- What the map holds: rows of codes. -/
def Rows2 (w : World) (L : List (Int × Value)) (R : List (Int × List Int)) : Prop := L.map (·.1) = R.map (·.1) ∧ ∀ n v, L.lookup n = some v → ∃ u, R.lookup n = some u ∧ Is w v u

/-- Pairs of trees. -/
def prC (xs : List (Value × Value)) : List Value := xs.flatMap fun p => [p.1, p.2]

theorem prC_len : ∀ xs : List (Value × Value), (prC xs).length = xs.length * 2
  | [] => rfl
  | p :: xs => by
    have := prC_len xs
    simp only [prC, List.flatMap_cons, List.length_append, List.length_cons, List.length_nil] at this ⊢
    omega

theorem prC_app (xs ys : List (Value × Value)) : prC (xs ++ ys) = prC xs ++ prC ys := by simp [prC, List.flatMap_append]

theorem prC_at : ∀ (xs : List (Value × Value)) (k : Nat) (p : Value × Value), xs[k]? = some p → (prC xs)[k * 2]? = some p.1 ∧ (prC xs)[k * 2 + 1]? = some p.2
  | [], k, p, h => by simp at h
  | q :: xs, 0, p, h => by
    simp only [List.getElem?_cons_zero, Option.some.injEq] at h
    subst h
    exact ⟨rfl, rfl⟩
  | q :: xs, k + 1, p, h => by
    rw [List.getElem?_cons_succ] at h
    have := prC_at xs k p h
    refine ⟨?_, ?_⟩
    · rw [show (k + 1) * 2 = k * 2 + 1 + 1 by omega]
      exact this.1
    · rw [show (k + 1) * 2 + 1 = k * 2 + 1 + 1 + 1 by omega]
      exact this.2

end Go.Proofs.YtfeeafkfjngemaaDoor

/- areTerms of package match walked. -/
namespace Go.Proofs.YtfeeafkfjngemaaDoor
open Go.RowKit Go.Maps

def termsB (sig : List Sy) (l : List (List Int)) : Bool := l.all fun t => decide (termE sig t = 0)

theorem termsB_take {sig : List Sy} {l : List (List Int)} {k : Nat} {t : List Int} (h : l[k]? = some t) : termsB sig (l.take (k + 1)) = (termsB sig (l.take k) && decide (termE sig t = 0)) := by
  unfold termsB
  rw [take_get h, List.all_append]
  simp

theorem termsB_no {sig : List Sy} {l : List (List Int)} {k : Nat} {t : List Int} (h : l[k]? = some t) (hn : termE sig t ≠ 0) : termsB sig l = false := by
  unfold termsB
  rw [List.all_eq_false]
  exact ⟨t, List.mem_of_getElem? h, by simpa using hn⟩

set_option maxRecDepth 100000 in
set_option maxHeartbeats 800000 in
theorem areTerms_any (sv rv : Value) (sig : List Sy) (l : List (List Int)) (w : World) (hs : Sg w sv sig) (h : Rs w rv l) (hT : Tabs w) :
    Calls Tryd.prog 62 #[sv, rv] w fun e w' => e = .returned (.bool (termsB sig l)) ∧ Below w.heap.size w w' := by
  obtain ⟨ao, cap, rfl, hao, hca, _⟩ := Row.flat h
  unfold maxLen at hca
  have HS := hid hs
  have HR := hid h
  have HT := hid hT
  clear hs h hT
  go_enter Tryd.func62, Tryd.ntmps62
  go_wp2
  go_loopw [9] (fun i wr => ∃ k : Nat, k ≤ l.length ∧ i = .int .i64 k ∧ termsB sig (l.take k) = true ∧ Below w.heap.size w wr) (fun i _ => l.length - (intOf i).toNat)
  case atStart => exact ⟨0, Nat.zero_le _, rfl, rfl, Below.refl _ _⟩
  case round =>
    obtain ⟨k, hk, rfl, hall, hbl⟩ := hrel
    have HAll := hid hall
    have HB := hid hbl
    clear hall
    by_cases hlt : k < l.length
    · obtain ⟨g, off, a, t, c, rfl, hm, hc, hit, hl8⟩ := HR.out.at hlt
      have hcr := (Kp.of_below hbl).cell _ _ hc
      have HM := hid hm
      have HIt := hid (hit.kp (Kp.of_below hbl))
      clear hm hit hbl hc
      go_wp2_with fail
      refine (check_any _ _ sig t wr (HS.out.kp (Kp.of_below HB.out)) HIt.out (HT.out.below HB.out) hl8).mono ?_
      rintro e w2 ⟨rfl, hb2⟩
      have HB2 := hid (below_step HB.out hb2)
      clear hcr hb2
      by_cases h0 : termE sig t = 0
      · rw [h0]
        have HA2 : Hid (termsB sig (l.take (k + 1)) = true) := by show _ = _; rw [termsB_take HM.out, HAll.out, h0]; rfl
        clear h0
        go_wp2
        go_roundw
        case measure => simp only [intOf]; omega
        case rel => exact ⟨k + 1, hlt, by go_num, HA2.out, HB2.out⟩
      · have HN := hid (termsB_no HM.out h0)
        have hne : (termE sig t != 0) = true := by simpa using h0
        clear h0
        go_wp2
        go_ret
        exact ⟨by have h9 := HN.out; simp [h9], HB2.out⟩
    · have HF : Hid (termsB sig l = true) := by
        have h9 := HAll.out
        rw [List.take_of_length_le (by omega)] at h9
        exact h9
      go_wp2
      go_ret
      exact ⟨by have h9 := HF.out; simp [h9], HB.out⟩

end Go.Proofs.YtfeeafkfjngemaaDoor

/- slices.EqualFunc at rows of rows walked. -/
namespace Go.Proofs.YtfeeafkfjngemaaDoor
open Go.RowKit Go.Maps

set_option maxRecDepth 100000 in
set_option maxHeartbeats 800000 in
theorem equalR_any (v u : Value) (xs ys : List (List Int)) (w : World) (h : Rs w v xs) (h' : Rs w u ys) :
    Calls Tryd.prog 63 #[v, u, .func (.func 65) #[] #[]] w fun e w' => e = .returned (.bool (decide (xs = ys))) ∧ ∃ n, w' = w.drewN n := by
  obtain ⟨ao, cap, rfl, hao, hca, _⟩ := Row.flat h
  obtain ⟨bo, cap', rfl, hbo, hcb, _⟩ := Row.flat h'
  unfold maxLen at hca hcb
  have HX := hid h
  have HY := hid h'
  clear h h'
  by_cases hl : xs.length = ys.length
  · have hle : ((xs.length : Int) != ys.length) = false := by simp; omega
    have HL := hid hl
    clear hl
    go_enter Tryd.func63, Tryd.ntmps63
    go_wp2
    clear hle
    go_loopw [17] (fun i wr => ∃ k : Nat, k ≤ xs.length ∧ i = .int .i64 k ∧ xs.take k = ys.take k ∧ ∃ n, wr = w.drewN n) (fun i _ => xs.length - (intOf i).toNat)
    case atStart => exact ⟨0, Nat.zero_le _, rfl, rfl, 0, rfl⟩
    case round =>
      obtain ⟨k, hk, rfl, ht, n, rfl⟩ := hrel
      have HT : Hid (xs.take k = ys.take k) := ht
      clear ht
      by_cases hlt : k < xs.length
      · have hlt' : k < ys.length := by have := HL.out; omega
        obtain ⟨g, off, a1, x, c1, rfl, hx1, hx2, hx3, _⟩ := HX.out.at hlt
        obtain ⟨g', off', a2, y, c2, rfl, hy1, hy2, hy3, _⟩ := HY.out.at hlt'
        have hx2' : (w.drewN n).cell? ⟨g, off + k, none⟩ = some (.slice a1 x.length c1) := hx2
        have hy2' : (w.drewN n).cell? ⟨g', off' + k, none⟩ = some (.slice a2 y.length c2) := hy2
        have HXk := hid hx1
        have HYk := hid hy1
        have HIx := hid (hx3.kp (Kp.drewN w n))
        have HIy := hid (hy3.kp (Kp.drewN w n))
        clear hx1 hy1 hx3 hy3 hx2 hy2
        go_wp2_with fail
        refine (equalI_any _ _ x y _ HIx.out HIy.out).mono ?_
        rintro e w2 ⟨rfl, m, rfl⟩
        clear hx2' hy2'
        by_cases hxy : x = y
        · have hd : decide (x = y) = true := by simp [hxy]
          rw [hd]
          have HN : Hid (xs.take (k + 1) = ys.take (k + 1)) := by show _ = _; rw [take_get HXk.out, take_get HYk.out, HT.out, hxy]
          clear hd hxy
          go_wp2
          go_roundw
          case rel => exact ⟨k + 1, by omega, by go_num, HN.out, _, rfl⟩
          case measure => simp only [intOf]; omega
        · have hd : decide (x = y) = false := by simp [hxy]
          rw [hd]
          have HN : Hid (decide (xs = ys) = false) := by
            show _ = _
            rw [decide_eq_false_iff_not]
            rintro rfl
            have := HXk.out.symm.trans HYk.out
            simp at this
            exact hxy this
          clear hd hxy
          go_wp2
          go_ret
          exact ⟨ret1b HN.out.symm, _, rfl⟩
      · have HF : Hid (decide (xs = ys) = true) := by
          have h9 := HT.out
          rw [List.take_of_length_le (by omega), List.take_of_length_le (by have := HL.out; omega)] at h9
          show _ = _
          simp [h9]
        go_wp2
        go_ret
        exact ⟨ret1b HF.out.symm, n, rfl⟩
  · have hle : ((xs.length : Int) != ys.length) = true := by rw [bne_iff_ne]; omega
    have HN : Hid (decide (xs = ys) = false) := by
      show _ = _
      rw [decide_eq_false_iff_not]
      rintro rfl
      exact hl rfl
    clear hl
    go_enter Tryd.func63, Tryd.ntmps63
    go_wp2
    go_ret
    exact ⟨ret1b HN.out.symm, 0, rfl⟩

end Go.Proofs.YtfeeafkfjngemaaDoor

/- Binds of one's own: rows that are the call's or older ones; a bind joined, binds joined. -/
namespace Go.Proofs.YtfeeafkfjngemaaDoor
open Go.RowKit Go.Maps

def flatB (s : List Bd) (us : List Value) : List Value := (s.zip us).flatMap fun p => [.int .i64 p.1.1, p.2]

/-- A row of a bind: the call's own, or one that was there. -/
def RowB (w0 w : World) (u : Value) (t : List Int) : Prop := OwI w w0.heap.size u t ∨ Is w0 u t

theorem RowB.is {w0 w : World} {u : Value} {t : List Int} (h : RowB w0 w u t) (hb : Below w0.heap.size w0 w) : Is w u t := by
  rcases h with h | h
  · exact h.is
  · exact h.kp (Kp.of_below hb)

theorem RowB.one {w0 w : World} {u : Value} {t : List Int} (h : RowB w0 w u t) : u.oneCell' = true := by
  rcases h with h | h
  · obtain ⟨_, _, rfl, _⟩ := h.shape
    rfl
  · obtain ⟨_, _, rfl, _⟩ := h
    rfl

def EBd (w0 w : World) (u : Value) (b : Bd) : Prop := RowB w0 w u b.2 ∧ -9223372036854775808 ≤ b.1 ∧ b.1 ≤ 9223372036854775807 ∧ b.2.length * 8 ≤ 140737488351232

theorem flatB_get : ∀ {s : List Bd} {us : List Value} {i : Nat} {b : Bd} {u : Value}, s[i]? = some b → us[i]? = some u → (flatB s us)[i * 2]? = some (.int .i64 b.1) ∧ (flatB s us)[i * 2 + 1]? = some u
  | [], _, i, _, _, h, _ => by simp at h
  | _ :: _, [], i, _, _, _, h => by simp at h
  | a :: s, v :: us, 0, b, u, h, k => by
    simp at h k
    subst h
    subst k
    exact ⟨by simp [flatB], by simp [flatB]⟩
  | a :: s, v :: us, i + 1, b, u, h, k => by
    rw [List.getElem?_cons_succ] at h k
    obtain ⟨h1, h2⟩ := flatB_get h k
    have e : flatB (a :: s) (v :: us) = .int .i64 a.1 :: v :: flatB s us := rfl
    rw [e]
    refine ⟨?_, ?_⟩
    · rw [show (i + 1) * 2 = i * 2 + 1 + 1 by omega]; simpa using h1
    · rw [show (i + 1) * 2 + 1 = i * 2 + 1 + 1 + 1 by omega]; simpa using h2

theorem flatB_len : ∀ {s : List Bd} {us : List Value}, us.length = s.length → (flatB s us).length = s.length * 2
  | [], us, h => by simp [flatB]
  | a :: s, [], h => by simp at h
  | a :: s, u :: us, h => by
    have e : flatB (a :: s) (u :: us) = .int .i64 a.1 :: u :: flatB s us := rfl
    rw [e, List.length_cons, List.length_cons, flatB_len (by simpa using h), List.length_cons]
    omega

theorem flatB_append : ∀ {s r : List Bd} {us vs : List Value}, us.length = s.length → flatB (s ++ r) (us ++ vs) = flatB s us ++ flatB r vs := by
  intro s r us vs h
  unfold flatB
  rw [List.zip_append h.symm, List.flatMap_append]

theorem flatB_one : ∀ {s : List Bd} {us : List Value}, (∀ u ∈ us, u.oneCell' = true) → ∀ c ∈ flatB s us, c.oneCell' = true
  | [], _, _, c, hc => by simp [flatB] at hc
  | _ :: _, [], _, c, hc => by simp [flatB] at hc
  | a :: s, u :: us, h, c, hc => by
    have e : flatB (a :: s) (u :: us) = .int .i64 a.1 :: u :: flatB s us := rfl
    rw [e] at hc
    cases hc with
    | head => rfl
    | tail _ hc =>
      cases hc with
      | head => exact h u (.head _)
      | tail _ hc => exact flatB_one (fun x hx => h x (.tail _ hx)) c hc

theorem RowB.later {w0 w w' : World} {u : Value} {t : List Int} (h : RowB w0 w u t) (hb : Below w.heap.size w w') : RowB w0 w' u t := by
  rcases h with h | h
  · exact .inl (h.later hb)
  · exact .inr h

end Go.Proofs.YtfeeafkfjngemaaDoor

/- Binds whose rows are the call's own; a look into a map of rows. -/
namespace Go.Proofs.YtfeeafkfjngemaaDoor
open Go.RowKit Go.Maps

theorem MapV.lookOne {w : World} {b : Nat} {L : List (Int × Value)} (h : MapV w b L) {t e : TypeId} {z : Value} (ht : Tryd.prog.underlying t = some (.map 3 e)) (hz : (zeroValue e).run Tryd.prog w = .ok z w) {k : Int} (h1 : -9223372036854775808 ≤ k) (h2 : k ≤ 9223372036854775807) {u : Value} (hl : L.lookup k = some u) :
    (Instr.lookup t (.map (some b)) (.int .i64 k) false).run Tryd.prog w = .ok u w := by
  obtain ⟨D, hD, _, ha, hh⟩ := h
  obtain ⟨v, ps, hrun, hv⟩ := hD.lookup set_keyed ht hz (zd := .held z) (zp := []) rfl (key_int h1 h2)
  rw [hrun]
  have hv2 : D.atKey (.int .i64 k) (.held z) = .held v := by
    simp only [RV, Option.some.injEq, Prod.mk.injEq] at hv
    exact hv.1.symm
  rw [ha k u hl] at hv2
  rw [DataW.held.inj hv2]

/-- A bind whose row is the call's own. -/
def EBo (base : Nat) (w : World) (u : Value) (b : Bd) : Prop := OwI w base u b.2 ∧ -9223372036854775808 ≤ b.1 ∧ b.1 ≤ 9223372036854775807 ∧ b.2.length * 8 ≤ 140737488351232

end Go.Proofs.YtfeeafkfjngemaaDoor

/- slices.Sort at []int laid; risingBinds of package match walked. -/
namespace Go.Proofs.YtfeeafkfjngemaaDoor
open Go.RowKit Go.Maps

def sortI (xs : List Int) : List Int := xs.mergeSort fun x y => decide (x ≤ y)

theorem sortI_len (xs : List Int) : (sortI xs).length = xs.length := by unfold sortI; simp

theorem sortI_mem (xs : List Int) (x : Int) : x ∈ sortI xs ↔ x ∈ xs := by unfold sortI; simp

def Tryd.sortLay_ren : Go.Shelf.Ren := ⟨fun | 189 => 20 | 125 => 35 | 257 => 34 | 128 => 60 | 129 => 61 | 294 => 51 | 295 => 52 | 296 => 53 | 297 => 54 | 298 => 55 | 299 => 56 | 216 => 57 | 300 => 58 | 301 => 59 | 328 => 75 | 329 => 76 | 330 => 77 | 331 => 78 | 332 => 79 | 215 => 80 | 343 => 87 | n => n, fun | 28 => 30 | 3 => 3 | 46 => 58 | 0 => 0 | 51 => 85 | 53 => 87 | 4 => 4 | 183 => 77 | 182 => 76 | 131 => 82 | 5 => 5 | 9 => 9 | 218 => 97 | 222 => 101 | 228 => 106 | 229 => 107 | n => n, fun | n => n⟩
theorem Tryd.sortLay : Go.Proofs.Lays.n189 Tryd.prog Tryd.sortLay_ren := {
  mixed := by kernel_rfl
  f125 := Tryd.func35.trans (congrArg some (by kernel_rfl))
  f128 := Tryd.func60.trans (congrArg some (by kernel_rfl))
  f129 := Tryd.func61.trans (congrArg some (by kernel_rfl))
  f189 := Tryd.func20.trans (congrArg some (by kernel_rfl))
  f215 := Tryd.func80.trans (congrArg some (by kernel_rfl))
  f216 := Tryd.func57.trans (congrArg some (by kernel_rfl))
  f257 := Tryd.func34.trans (congrArg some (by kernel_rfl))
  f294 := Tryd.func51.trans (congrArg some (by kernel_rfl))
  f295 := Tryd.func52.trans (congrArg some (by kernel_rfl))
  f296 := Tryd.func53.trans (congrArg some (by kernel_rfl))
  f297 := Tryd.func54.trans (congrArg some (by kernel_rfl))
  f298 := Tryd.func55.trans (congrArg some (by kernel_rfl))
  f299 := Tryd.func56.trans (congrArg some (by kernel_rfl))
  f300 := Tryd.func58.trans (congrArg some (by kernel_rfl))
  f301 := Tryd.func59.trans (congrArg some (by kernel_rfl))
  f328 := Tryd.func75.trans (congrArg some (by kernel_rfl))
  f329 := Tryd.func76.trans (congrArg some (by kernel_rfl))
  f330 := Tryd.func77.trans (congrArg some (by kernel_rfl))
  f331 := Tryd.func78.trans (congrArg some (by kernel_rfl))
  f332 := Tryd.func79.trans (congrArg some (by kernel_rfl))
  f343 := Tryd.func87.trans (congrArg some (by kernel_rfl))
  t0 := Tryd.underlying0
  a0 := Tryd.isAgg0
  z0 := Tryd.sizeOf0
  v0 := Tryd.zeroValue0
  t3 := Tryd.underlying3
  a3 := Tryd.isAgg3
  z3 := Tryd.sizeOf3
  v3 := Tryd.zeroValue3
  t4 := Tryd.underlying4
  a4 := Tryd.isAgg4
  z4 := Tryd.sizeOf4
  v4 := Tryd.zeroValue4
  t5 := Tryd.underlying5
  a5 := Tryd.isAgg5
  z5 := Tryd.sizeOf5
  v5 := Tryd.zeroValue5
  t9 := Tryd.underlying9
  a9 := Tryd.isAgg9
  z9 := Tryd.sizeOf9
  v9 := Tryd.zeroValue9
  t28 := Tryd.underlying30
  a28 := Tryd.isAgg30
  z28 := Tryd.sizeOf30
  v28 := Tryd.zeroValue30
  t46 := Tryd.underlying58
  a46 := Tryd.isAgg58
  z46 := Tryd.sizeOf58
  v46 := Tryd.zeroValue58
  t51 := Tryd.underlying85
  a51 := Tryd.isAgg85
  z51 := Tryd.sizeOf85
  v51 := Tryd.zeroValue85
  t53 := Tryd.underlying87
  a53 := Tryd.isAgg87
  z53 := Tryd.sizeOf87
  v53 := Tryd.zeroValue87
  t131 := Tryd.underlying82
  a131 := Tryd.isAgg82
  z131 := Tryd.sizeOf82
  v131 := Tryd.zeroValue82
  t182 := Tryd.underlying76
  a182 := Tryd.isAgg76
  z182 := Tryd.sizeOf76
  v182 := Tryd.zeroValue76
  t183 := Tryd.underlying77
  a183 := Tryd.isAgg77
  z183 := Tryd.sizeOf77
  v183 := Tryd.zeroValue77
  t218 := Tryd.underlying97
  a218 := Tryd.isAgg97
  z218 := Tryd.sizeOf97
  v218 := Tryd.zeroValue97
  t222 := Tryd.underlying101
  a222 := Tryd.isAgg101
  z222 := Tryd.sizeOf101
  v222 := Tryd.zeroValue101
  t228 := Tryd.underlying106
  a228 := Tryd.isAgg106
  z228 := Tryd.sizeOf106
  v228 := Tryd.zeroValue106
  t229 := Tryd.underlying107
  a229 := Tryd.isAgg107
  z229 := Tryd.sizeOf107
  v229 := Tryd.zeroValue107 }

set_option maxRecDepth 100000 in
set_option maxHeartbeats 800000 in
theorem sortI_any (v : Value) (xs : List Int) (w : World) (base : Nat) (ho : OwI w base v xs) (hn : xs.length < 4611686018427387904) :
    Calls Tryd.prog 20 #[v] w fun e w' => e = .returned (.tuple #[]) ∧ OwI w' base v (sortI xs) ∧ w.grownBy w' v.ownBlock := by
  have hz : ZI (sortI xs) := fun k x hk => by
    obtain ⟨j, hj⟩ := List.getElem?_of_mem ((sortI_mem xs x).1 (List.mem_of_getElem? hk))
    exact ho.1 j x hj
  rcases ho.2.2 with ⟨rfl, h0⟩ | ⟨g, cap, cur, rfl, hb, hg, hc, hm, hs, ht⟩
  · obtain rfl : xs = [] := List.eq_nil_of_length_eq_zero h0
    have hcon := Any.slices_Sort_int_none Tryd.sortLay none 0 w
    change Calls Tryd.prog 20 _ _ _ at hcon
    refine hcon.mono ?_
    rintro e w' ⟨rfl, rfl⟩
    exact ⟨rfl, by simpa [sortI] using ho, World.grownBy.refl _ _⟩
  · rw [Nat.mul_one] at ht
    have hcon := Any.slices_Sort_int Tryd.sortLay g 0 cap xs w (holds_of_blockI hg ht) (Array.getElem?_eq_some_iff.1 hg).1 hn
    change Calls Tryd.prog 20 _ _ _ at hcon
    refine hcon.mono ?_
    rintro e w' ⟨rfl, n, os, rfl⟩
    refine ⟨rfl, ⟨hz, ?_⟩, grownBy_sortedI _⟩
    have := ownsRow_sortedI (n := n) (os := os) (sortI_len xs) hb hg hc hm hs
    rw [sortI_len]
    exact this

end Go.Proofs.YtfeeafkfjngemaaDoor
