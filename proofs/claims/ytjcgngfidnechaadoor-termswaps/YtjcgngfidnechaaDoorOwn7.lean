/- Texts of the proof, one behind the other. -/
import Derived.Test.YtjcgngfidnechaaDoorOwn6
import Derived.Deep.LoopGhost
import Derived.Test.YtjcgngfidnechaaDoorOwn3
/- placesAbove walked. -/
namespace Go.Proofs.YtjcgngfidnechaaDoor
open Go.RowKit Go.Maps

theorem abv_here (T : Tr) (p : Nat) : abv T p p = [] := by
  cases T with
  | var => simp [abv]
  | app ts => unfold abv; rw [if_pos rfl]

theorem sizes_drop {ts : List Tr} {j : Nat} {t : Tr} (h : ts[j]? = some t) : sizes (ts.drop j) = t.size + sizes (ts.drop (j + 1)) := by
  rw [drop_get h]
  simp only [sizes]

theorem sizes_pos {ts : List Tr} {j : Nat} (h : 0 < sizes (ts.drop j)) : j < ts.length := by
  by_cases hj : j < ts.length
  · exact hj
  · rw [List.drop_of_length_le (by omega)] at h
    simp [sizes] at h

theorem abvs_next {ts : List Tr} {j p q : Nat} {t : Tr} (h : ts[j]? = some t) : abvs (ts.drop j) p q = if p + t.size ≤ q then abvs (ts.drop (j + 1)) (p + t.size) q else abv t p q := by
  rw [drop_get h]
  rfl

set_option maxRecDepth 100000 in
set_option maxHeartbeats 3200000 in
theorem placesAbove_any (u : Value) (T : Tr) (A : Nat → Prop) (q : Nat) (w : World) (ht : TV w A u T) (hA : ∀ b, A b → b < w.heap.size) (hq : q < T.size) (hl : T.size * 8 ≤ 140737488355328) :
    Calls Tryd.prog 40 #[u, .int .i64 q] w fun e w' => ∃ v', e = .returned v' ∧ OwI w' w.heap.size v' (abv T 0 q) ∧ Below w.heap.size w w' := by
  have HA := hid hA
  have HT := hid ht
  clear hA ht
  go_enter Tryd.func40, Tryd.ntmps40
  go_wp2
  go_loopg [5, 6, 7] q (fun k x nv pv wr => ∃ (p : Nat) (S : Tr) (ab : List Int), pv = .int .i64 p ∧ p ≤ q ∧ q < p + S.size ∧ p + S.size ≤ T.size ∧ q - p ≤ k ∧ TV w A nv S ∧ abv T 0 q = ab ++ abv S p q ∧ ab.length ≤ p ∧ OwI wr w.heap.size x ab ∧ Below w.heap.size w wr)
  case atStart => exact ⟨0, T, [], rfl, Nat.zero_le _, by omega, by omega, by omega, HT.out, rfl, Nat.le_refl _, nilI _ _, Below.refl _ _⟩
  case round =>
    obtain ⟨p, S, ab, rfl, hpq, hqs, hst, hgk, htv, hab, hal, how, hbl⟩ := hrel
    have HOw := hid how
    have HB := hid hbl
    have HAb := hid hab
    clear how hbl hab HT
    by_cases hpe : p = q
    · subst hpe
      have HF : Hid (abv T 0 p = ab) := by show _ = _; rw [HAb.out, abv_here, List.append_nil]
      have hne : ((p : Int) != (p : Int)) = false := by simp
      go_wp2
      go_ret
      exact ⟨_, rfl, by rw [HF.out]; exact HOw.out, HB.out⟩
    · cases S with
      | var => simp only [Tr.size] at hqs; omega
      | app ts =>
        unfold TV at htv
        obtain ⟨b, a, cp, rfl, hb, h3, h4, h5, h6, h7⟩ := htv
        simp only [Tr.size] at hqs hst
        unfold maxLen at h6
        have hlt0 : 0 < ts.length := sizes_pos (j := 0) (by rw [List.drop_zero]; omega)
        have hne : ((p : Int) != (q : Int)) = true := by rw [bne_iff_ne]; omega
        have h3r := (HB.out.cell (p := ⟨b, 0, none⟩) (HA.out b hb)).trans h3
        obtain ⟨g, off, rfl, hAg, htvs⟩ : ∃ g off, a = some ⟨g, off, none⟩ ∧ A g ∧ TVs w A g off ts := by
          rcases h7 with h | h
          · rw [h] at hlt0; simp at hlt0
          · exact h
        have HTs := hid htvs
        have HAg := hid hAg
        have hwp : IntKind.i64.wrap ((p : Int) + 1) = ((p + 1 : Nat) : Int) := by rw [IntWalk.i64_in _ ⟨by omega, by omega⟩]; omega
        have HAp : Hid (abv T 0 q = (ab ++ [(p : Int)]) ++ abvs ts (p + 1) q) := by
          show _ = _
          rw [HAb.out, abv, if_neg hpe, List.append_assoc]
          rfl
        obtain ⟨v6, w6, hr6, ho6, hg6, _⟩ := join_one 27 (c := (p : Int)) HOw.out (by omega) (by omega) HB.out.size (by omega)
        have hb6 := (below_step HB.out (below_alloc _)).grown hg6 (Nat.le_trans HB.out.size (below_alloc _).size) (fun j hj => own_blk HOw.out.2 hj)
        have HR6 := hid hr6
        have HO6 := hid ho6
        have HB6 := hid hb6
        have hc6 := (HB6.out.cell (p := ⟨b, 0, none⟩) (HA.out b hb)).trans h3
        have has := as_app (.pointer (some ⟨b, 0, none⟩)) 54 false
        simp only [Bool.false_eq_true, if_false] at has
        clear h7 htvs hAg h3r h4 hr6 ho6 hg6 hb6 HAb HOw HB h3
        go_wp2_with (first
          | (at_builtin; refine wpList_append_run rfl _ _ _ rfl _ _ rfl rfl HR6.out ?_))
        clear has hwp hc6 HR6 hne
        go_loopg [7, 8] ts.length (fun k pv av wr => ∃ (j p2 : Nat), j < ts.length ∧ pv = .int .i64 p2 ∧ av = .slice (some ⟨g, off + j, none⟩) (ts.length - j) (cp - j) ∧ p + 1 ≤ p2 ∧ p2 ≤ q ∧ q < p2 + sizes (ts.drop j) ∧ p2 + sizes (ts.drop j) ≤ T.size ∧ ts.length - j ≤ k ∧ abvs ts (p + 1) q = abvs (ts.drop j) p2 q ∧ Below w6.heap.size w6 wr)
        case atStart => exact ⟨0, p + 1, hlt0, rfl, rfl, Nat.le_refl _, by omega, by rw [List.drop_zero]; omega, by rw [List.drop_zero]; omega, by omega, rfl, Below.refl _ _⟩
        case round =>
          obtain ⟨j, p2, hj, rfl, rfl, hp2, hp2q, hq2, hst2, hgk2, hab2, hbl2⟩ := hrel
          have HB2 := hid hbl2
          have HA2 := hid hab2
          obtain ⟨t, htk⟩ : ∃ t, ts[j]? = some t := ⟨_, List.getElem?_eq_getElem hj⟩
          obtain ⟨uv, hcu, htv⟩ := HTs.out.get htk
          have hcell : wr.cell? ⟨g, off + j, none⟩ = some uv := (HB2.out.cell (p := ⟨g, off + j, none⟩) (Nat.lt_of_lt_of_le (HA.out g HAg.out) HB6.out.size)).trans ((HB6.out.cell (p := ⟨g, off + j, none⟩) (HA.out g HAg.out)).trans hcu)
          have hsd := sizes_drop htk
          have hnx : abvs ts (p + 1) q = if p2 + t.size ≤ q then abvs (ts.drop (j + 1)) (p2 + t.size) q else abv t p2 q := by rw [HA2.out, abvs_next htk]
          have HNx := hid hnx
          have hlj : 0 < ts.length - j := by omega
          clear hab2 hbl2 hcu htk hnx HA2
          by_cases hfar : p2 + t.size ≤ q
          · have HNf : Hid (abvs ts (p + 1) q = abvs (ts.drop (j + 1)) (p2 + t.size) q) := by show _ = _; rw [HNx.out, if_pos hfar]
            have hj2 : j + 1 < ts.length := sizes_pos (by omega)
            have hcj : ¬ cp - j = 1 := by omega
            have hcj1 : 1 ≤ cp - j := by omega
            have hlj1 : 1 ≤ ts.length - j := by omega
            have HCp : Hid (cp - j - 1 = cp - (j + 1)) := by show _ = _; omega
            have HLn : Hid (ts.length - j - 1 = ts.length - (j + 1)) := by show _ = _; omega
            have hts := t.pos
            clear HNx
            cases t with
            | var =>
              unfold TV at htv
              subst htv
              simp only [Tr.size] at hfar hsd hts HNf
              have hw1 : IntKind.i64.wrap ((p2 : Int) + 1) = ((p2 + 1 : Nat) : Int) := by rw [IntWalk.i64_in _ ⟨by omega, by omega⟩]; omega
              have hge : ((p2 + 1 : Nat) : Int) ≤ (q : Int) := by omega
              go_wp2_with fail
              refine (varNodes_any _).mono ?_
              rintro e w2 ⟨rfl, hb2⟩
              have HB3 := hid (below_step HB2.out hb2)
              have hcell2 := (Kp.of_below hb2).cell _ _ hcell
              clear hb2 hcell
              go_wp2_with fail
              refine (varNodes_any _).mono ?_
              rintro e w3 ⟨rfl, hb3⟩
              have HB4 := hid (below_step HB3.out hb3)
              clear hb3 hcell2
              go_wp2
              go_roundg (ts.length - (j + 1))
              case measure => omega
              case rel => exact ⟨j + 1, p2 + 1, hj2, by go_num, by rw [← HCp.out, ← HLn.out]; rfl, by omega, by omega, by omega, by omega, Nat.le_refl _, HNf.out, HB4.out⟩
            | app rs =>
              unfold TV at htv
              obtain ⟨b2, a2, cp2, rfl, hb2, _, h4, _, _, _⟩ := htv
              have h4r : wr.cell? ⟨b2, 1, none⟩ = _ := (HB2.out.cell (p := ⟨b2, 1, none⟩) (Nat.lt_of_lt_of_le (HA.out b2 hb2) HB6.out.size)).trans ((HB6.out.cell (p := ⟨b2, 1, none⟩) (HA.out b2 hb2)).trans h4)
              simp only [Tr.size] at hfar hsd hts HNf
              obtain ⟨Z, hZ⟩ : ∃ Z, Z = 1 + sizes rs := ⟨_, rfl⟩
              rw [← hZ] at hfar hsd hts HNf h4r
              have hw1 : IntKind.i64.wrap ((p2 : Int) + (Z : Int)) = ((p2 + Z : Nat) : Int) := by rw [IntWalk.i64_in _ ⟨by omega, by omega⟩]; omega
              have hge : ((p2 + Z : Nat) : Int) ≤ (q : Int) := by omega
              clear h4 hZ
              go_wp2_with fail
              refine (appNodes_any b2 _ _ h4r).mono ?_
              rintro e w2 ⟨rfl, hw2⟩
              have hw8 := hw2.symm
              subst hw8
              clear hw2
              go_wp2_with fail
              refine (appNodes_any b2 _ _ h4r).mono ?_
              rintro e w3 ⟨rfl, hw3⟩
              have hw8 := hw3.symm
              subst hw8
              clear hw3 h4r hcell
              go_wp2
              go_roundg (ts.length - (j + 1))
              case measure => omega
              case rel => exact ⟨j + 1, p2 + Z, hj2, by go_num, by rw [← HCp.out, ← HLn.out]; rfl, by omega, by omega, by omega, by omega, Nat.le_refl _, HNf.out, HB2.out⟩
          · have HNf : Hid (abv T 0 q = (ab ++ [(p : Int)]) ++ abv t p2 q) := by show _ = _; rw [HAp.out, HNx.out, if_neg hfar]
            have HTv := hid htv
            have hts := t.pos
            clear HNx
            cases t with
            | var =>
              unfold TV at htv
              subst htv
              simp only [Tr.size] at hfar hsd hts
              have hw1 : IntKind.i64.wrap ((p2 : Int) + 1) = ((p2 + 1 : Nat) : Int) := by rw [IntWalk.i64_in _ ⟨by omega, by omega⟩]; omega
              have hge : ¬ ((p2 + 1 : Nat) : Int) ≤ (q : Int) := by omega
              go_wp2_with fail
              refine (varNodes_any _).mono ?_
              rintro e w2 ⟨rfl, hb2⟩
              have HB3 := hid (below_step HB6.out (below_step HB2.out hb2))
              have HO3 := hid (HO6.out.later (below_step HB2.out hb2))
              have hcell2 := (Kp.of_below hb2).cell _ _ hcell
              clear hb2 hcell
              go_wp2
              go_roundg (q - p2)
              case measure => omega
              case rel => exact ⟨p2, .var, ab ++ [(p : Int)], rfl, hp2q, by simp only [Tr.size]; omega, by simp only [Tr.size]; omega, Nat.le_refl _, HTv.out, HNf.out, by rw [List.length_append, List.length_singleton]; omega, HO3.out, HB3.out⟩
            | app rs =>
              unfold TV at htv
              obtain ⟨b2, a2, cp2, rfl, hb2, _, h4, _, _, _⟩ := htv
              have h4r : wr.cell? ⟨b2, 1, none⟩ = _ := (HB2.out.cell (p := ⟨b2, 1, none⟩) (Nat.lt_of_lt_of_le (HA.out b2 hb2) HB6.out.size)).trans ((HB6.out.cell (p := ⟨b2, 1, none⟩) (HA.out b2 hb2)).trans h4)
              simp only [Tr.size] at hfar hsd hts
              obtain ⟨Z, hZ⟩ : ∃ Z, Z = 1 + sizes rs := ⟨_, rfl⟩
              rw [← hZ] at hfar hsd hts h4r
              have HZ := hid hZ
              have hw1 : IntKind.i64.wrap ((p2 : Int) + (Z : Int)) = ((p2 + Z : Nat) : Int) := by rw [IntWalk.i64_in _ ⟨by omega, by omega⟩]; omega
              have hge : ¬ ((p2 + Z : Nat) : Int) ≤ (q : Int) := by omega
              have HB3 := hid (below_step HB6.out HB2.out)
              have HO3 := hid (HO6.out.later HB2.out)
              clear h4 hZ
              go_wp2_with fail
              refine (appNodes_any b2 _ _ h4r).mono ?_
              rintro e w2 ⟨rfl, hw2⟩
              have hw8 := hw2.symm
              subst hw8
              clear hw2 h4r
              go_wp2
              go_roundg (q - p2)
              case measure => omega
              case rel => exact ⟨p2, .app rs, ab ++ [(p : Int)], rfl, hp2q, by simp only [Tr.size]; rw [← HZ.out]; omega, by simp only [Tr.size]; rw [← HZ.out]; omega, Nat.le_refl _, HTv.out, HNf.out, by rw [List.length_append, List.length_singleton]; omega, HO3.out, HB3.out⟩

end Go.Proofs.YtjcgngfidnechaaDoor

/- The document's End and place walked. -/
namespace Go.Proofs.YtjcgngfidnechaaDoor
open Go.RowKit Go.Maps Go.BigFrame

theorem codeD_neg {sig : List Sy} {c e : Int} (h : codeD sig c = some e) (hc : c < 0) : e = -1 := by
  unfold codeD at h
  split at h
  · cases h
  · first
    | (rw [if_pos hc] at h; cases h; rfl)
    | (cases h; rfl)

theorem codeD_get {sig : List Sy} {c : Nat} {e : Int} (h : codeD sig (c : Int) = some e) : ∃ s, sig[c]? = some s ∧ e = s.2 - 1 := by
  unfold codeD at h
  rw [if_neg (by omega), if_neg (by omega), Int.toNat_natCast] at h
  cases hs : sig[c]? with
  | none => rw [hs] at h; cases h
  | some s =>
    rw [hs] at h
    cases h
    exact ⟨s, rfl, rfl⟩

set_option maxRecDepth 100000 in
set_option maxHeartbeats 1600000 in
theorem refEnd_any (sv v : Value) (sig : List Sy) (t : List Int) (k n : Nat) (w : World) (hs : Sg w sv sig) (h : Is w v t) (ha : ArOk sig) (hb : t.length * 8 ≤ 140737488351232) (hn : firstT sig 1 0 (t.drop k) = ((n : Int), 0)) :
    Calls Tryd.prog 42 #[sv, v, .int .i64 k] w fun e w' => e = .returned (.int .i64 ((k + n : Nat) : Int)) ∧ w' = w := by
  obtain ⟨so, sc, rfl, hso, hsc, _⟩ := Row.flat hs
  obtain ⟨ao, cap, rfl, hao, hca, q0⟩ := Row.flat h
  unfold maxLen at hca hsc
  have HS := hid hs
  have HT := hid h
  have HA := hid ha
  have HN := hid hn
  have hkl : k < t.length := by
    by_cases hk : k < t.length
    · exact hk
    · rw [List.drop_of_length_le (by omega)] at hn
      simp [firstT] at hn
  clear hs h q0 ha hn
  go_enter Tryd.func42, Tryd.ntmps42
  go_wp2
  go_loopw [2, 7] (fun a x wr => ∃ (j : Nat) (m : Int), a = .int .i64 ((k + j : Nat) : Int) ∧ x = .int .i64 m ∧ k + j ≤ t.length ∧ ((0 < m ∧ firstT sig m j (t.drop (k + j)) = ((n : Int), 0)) ∨ (m = 0 ∧ j = n)) ∧ m ≤ 1 + 1000 * (j : Int) ∧ wr = w) (fun a _ _ => t.length + 1 - (intOf a).toNat)
  case atStart => exact ⟨0, 1, rfl, rfl, by omega, .inl ⟨by omega, HN.out⟩, by omega, rfl⟩
  case round =>
    obtain ⟨j, m, rfl, rfl, hkj, hft, hm2, hw⟩ := hrel
    have hw8 := hw.symm
    subst hw8
    clear hw HN
    rcases hft with ⟨hm0, hft⟩ | ⟨rfl, rfl⟩
    · have hlt : k + j < t.length := by
        by_cases hk : k + j < t.length
        · exact hk
        · rw [List.drop_of_length_le (by omega)] at hft
          simp [firstT] at hft
      obtain ⟨g, off, c, rfl, hx1, hx2, hx3, hx4⟩ := HT.out.at hlt
      rw [drop_get hx1, firstT_cons] at hft
      cases hcd : codeD sig c with
      | none => rw [hcd] at hft; simp at hft
      | some e =>
        have hge := codeD_ge HA.out hcd
        have HD : Hid ((0 < m + e ∧ firstT sig (m + e) (j + 1) (t.drop (k + (j + 1))) = ((n : Int), 0)) ∨ (m + e = 0 ∧ j + 1 = n)) := by
          rw [hcd] at hft
          simp only at hft
          by_cases h0 : m + e = 0
          · rw [if_pos h0] at hft
            have := congrArg Prod.fst hft
            simp only at this
            exact .inr ⟨h0, by omega⟩
          · rw [if_neg h0] at hft
            exact .inl ⟨by omega, hft⟩
        clear hft
        have hwk : IntKind.i64.wrap ((k : Int) + (j : Int) + 1) = ((k + (j + 1) : Nat) : Int) := by rw [IntWalk.i64_in _ ⟨by omega, by omega⟩]; omega
        by_cases hc0 : c < 0
        · have he := codeD_neg hcd hc0
          subst he
          have hcn : ¬ 0 ≤ c := by omega
          have hwm : IntKind.i64.wrap (m - 1) = m + -1 := by rw [IntWalk.i64_in _ ⟨by omega, by omega⟩]; omega
          clear hcd hx1
          go_wp2
          go_roundw
          case rel => exact ⟨j + 1, m + -1, by go_num, rfl, by omega, HD.out, by omega, trivial⟩
          case measure => simp [intOf]; omega
        · obtain ⟨cn, rfl⟩ : ∃ cn : Nat, c = cn := ⟨c.toNat, by omega⟩
          have hcn : (0 : Int) ≤ (cn : Int) := by omega
          obtain ⟨s, hsg, he⟩ := codeD_get hcd
          have hcl := (List.getElem?_eq_some_iff.1 hsg).1
          obtain ⟨g2, off2, nm, ar, rfl, hs1, hs2, hs3, hs4, hs5, hs6⟩ := HS.out.at (k := cn) hcl
          rw [hsg] at hs1
          cases hs1
          have har := HA.out _ (List.mem_of_getElem? hsg)
          simp only at har he
          subst he
          have hwm1 : IntKind.i64.wrap (m - 1) = m - 1 := IntWalk.i64_in _ ⟨by omega, by omega⟩
          have hwm : IntKind.i64.wrap (m - 1 + ar) = m + (ar - 1) := by rw [IntWalk.i64_in _ ⟨by omega, by omega⟩]; omega
          clear hsg hx1 hcd
          go_wp2
          go_roundw
          case rel => exact ⟨j + 1, m + (ar - 1), by go_num, rfl, by omega, HD.out, by omega, trivial⟩
          case measure => simp [intOf]; omega
    · go_wp2
      go_ret
      exact ⟨rfl, rfl⟩

/-- What is wrong with a place. -/
theorem place_eq {sig : List Sy} {t : List Int} {p : Int} (h : termE sig t = 0) : placeE sig t p = if p < 0 ∨ (t.length : Int) ≤ p then 33 else 0 := by
  unfold placeE
  rw [if_pos h]
  unfold endP
  by_cases hp : p < 0 ∨ (t.length : Int) ≤ p
  · rw [if_pos hp, if_pos hp]
  · rw [if_neg hp, if_neg hp]
    obtain ⟨k, rfl⟩ : ∃ k : Nat, p = k := ⟨p.toNat, by omega⟩
    have hk : k < t.length := by omega
    obtain ⟨h1, h2⟩ := term_parts h
    obtain ⟨_, _, h3, _⟩ := at_place (sigE_ok h1) h2 hk
    rw [Int.toNat_natCast, h3]

theorem place_in {sig : List Sy} {t : List Int} {k : Nat} (h : termE sig t = 0) (hk : k < t.length) : placeE sig t k = 0 := by
  rw [place_eq h, if_neg (by omega)]

theorem place_end {sig : List Sy} {t : List Int} {k : Nat} (h : termE sig t = 0) (hk : k < t.length) : endP sig t k = (((k + nodes sig t k : Nat) : Int), 0) := by
  obtain ⟨h1, h2⟩ := term_parts h
  obtain ⟨_, _, h3, _⟩ := at_place (sigE_ok h1) h2 hk
  unfold endP
  rw [if_neg (by omega), Int.toNat_natCast, h3]
  simp only [Prod.mk.injEq, and_true]
  omega

theorem sub_eq {sig : List Sy} {t : List Int} {k : Nat} (h : termE sig t = 0) (hk : k < t.length) : subL sig t k = (t.drop k).take (nodes sig t k) := by
  unfold subL
  rw [if_pos (place_in h hk), place_end h hk, Int.toNat_natCast, Int.toNat_natCast, show k + nodes sig t k - k = nodes sig t k by omega]

set_option maxRecDepth 100000 in
set_option maxHeartbeats 800000 in
theorem refPlace_any (sv v : Value) (sig : List Sy) (t : List Int) (p : Int) (w : World) (hs : Sg w sv sig) (h : Is w v t) (hb : t.length * 8 ≤ 140737488351232) (hp1 : -9223372036854775808 ≤ p) (hp2 : p ≤ 9223372036854775807) :
    Calls Tryd.prog 41 #[sv, v, .int .i64 p] w fun e w' => e = .returned (.int .i64 (placeE sig t p)) ∧ Below w.heap.size w w' := by
  obtain ⟨ao, cap, rfl, hao, hca, q0⟩ := Row.flat h
  unfold maxLen at hca
  have HS := hid hs
  have HI := hid h
  clear hs h q0
  go_enter Tryd.func41, Tryd.ntmps41
  go_wp2_with fail
  refine (refCheck_any sv _ sig t w HS.out HI.out hb).mono ?_
  rintro e w1 ⟨rfl, hb1⟩
  have HB := hid hb1
  clear hb1
  by_cases he : termE sig t = 0
  · have HF := hid (place_eq (p := p) he)
    rw [he]
    clear he
    by_cases h0 : p < 0
    · have HG : Hid (placeE sig t p = 33) := by show _ = _; rw [HF.out, if_pos (.inl h0)]
      go_wp2
      go_ret
      exact ⟨ret1i HG.out.symm, HB.out⟩
    · by_cases h1 : (t.length : Int) ≤ p
      · have HG : Hid (placeE sig t p = 33) := by show _ = _; rw [HF.out, if_pos (.inr h1)]
        go_wp2
        go_ret
        exact ⟨ret1i HG.out.symm, HB.out⟩
      · have HG : Hid (placeE sig t p = 0) := by show _ = _; rw [HF.out, if_neg (by omega)]
        go_wp2
        go_ret
        exact ⟨ret1i HG.out.symm, HB.out⟩
  · have HF : Hid (placeE sig t p = termE sig t) := by show _ = _; unfold placeE; rw [if_neg he]
    generalize termE sig t = E at he HF ⊢
    have heb : (E == 0) = false := by simpa using he
    go_wp2
    go_ret
    exact ⟨ret1i HF.out.symm, HB.out⟩

end Go.Proofs.YtjcgngfidnechaaDoor

/- The document's Kids, Sub, Above, Vars walked. -/
namespace Go.Proofs.YtjcgngfidnechaaDoor
open Go.RowKit Go.Maps Go.BigFrame

/-- A symbol's arguments, where they stand. -/
theorem kids_parts {sig : List Sy} {t : List Int} {k : Nat} {c : Int} (h : placeE sig t k = 0) (hc : t[k]? = some c) (h0 : ¬ c < 0) :
    ∃ (us : List (List Int)) (q : List Int), us.length = arN sig c ∧ t.drop (k + 1) = us.flatten ++ q ∧ (∀ u ∈ us, rowE sig u = 0) ∧ kidsL sig t k = places (k + 1) (us.map List.length) := by
  obtain ⟨ha, hr, k', m, hk, hkl, hm1, hend, hkm, hsub, hrow⟩ := placeE_ok h
  obtain rfl : k = k' := by omega
  have hd := drop_get hc
  obtain ⟨m', rfl⟩ : ∃ m', m = m' + 1 := ⟨m - 1, by omega⟩
  rw [hd, List.take_succ_cons] at hsub hrow
  obtain ⟨us, u1, u2, u3, u4⟩ := kids_tree ha hrow h0
  refine ⟨us, (t.drop (k + 1)).drop m', u1, by rw [← u2, List.take_append_drop], u3, ?_⟩
  unfold kidsL
  rw [hsub, Int.toNat_natCast, u4]
  show kidsGo (k + 1) (us.flatMap (growR sig)) = _
  rw [kids_places, ← grow_map ha us u3, grow_flat ha us u3]

theorem kids_var {sig : List Sy} {t : List Int} {k : Nat} {c : Int} (h : placeE sig t k = 0) (hc : t[k]? = some c) (h0 : c < 0) : kidsL sig t k = [] := by
  rw [kids_eq h hc, if_pos h0]

theorem drop_next {us : List (List Int)} {i : Nat} {u : List Int} (h : us[i]? = some u) (q : List Int) : (us.drop i).flatten ++ q = u ++ ((us.drop (i + 1)).flatten ++ q) := by
  rw [drop_get h, List.flatten_cons, List.append_assoc]

theorem first_right {sig : List Sy} {u : List Int} (h : rowE sig u = 0) (q : List Int) : firstT sig 1 0 (u ++ q) = ((u.length : Int), 0) := first_more q u 1 0 _ (by rw [row_first.1 h])

theorem place_term {sig : List Sy} {t : List Int} {p : Int} (h : placeE sig t p = 0) : termE sig t = 0 := by
  unfold placeE at h
  by_cases ht : termE sig t = 0
  · exact ht
  · rw [if_neg ht] at h; exact h

set_option maxRecDepth 100000 in
set_option maxHeartbeats 1600000 in
theorem refKids_any (sv v : Value) (sig : List Sy) (t : List Int) (p : Int) (w : World) (hs : Sg w sv sig) (h : Is w v t) (hb : t.length * 8 ≤ 140737488351232) (hp1 : -9223372036854775808 ≤ p) (hp2 : p ≤ 9223372036854775807) :
    Calls Tryd.prog 23 #[sv, v, .int .i64 p] w fun e w' => ∃ v', e = .returned (.tuple #[v', .int .i64 (placeE sig t p)]) ∧ OwI w' w.heap.size v' (kidsL sig t p) ∧ Below w.heap.size w w' := by
  obtain ⟨so, sc, rfl, hso, hsc, _⟩ := Row.flat hs
  obtain ⟨ao, cap, rfl, hao, hca, q0⟩ := Row.flat h
  unfold maxLen at hca hsc
  have HS := hid hs
  have HI := hid h
  clear hs h q0
  go_enter Tryd.func23, Tryd.ntmps23
  go_wp2_with fail
  refine (refPlace_any _ _ sig t p w HS.out HI.out hb hp1 hp2).mono ?_
  rintro e w1 ⟨rfl, hb1⟩
  have HB := hid hb1
  clear hb1
  by_cases he : placeE sig t p = 0
  · obtain ⟨ha, _, k, _, hk, hkl, _⟩ := placeE_ok he
    subst hk
    have HE := hid he
    have HA := hid ha
    have HI1 := hid (HI.out.kp (Kp.of_below HB.out))
    have HS1 := hid (HS.out.kp (Kp.of_below HB.out))
    obtain ⟨g, off, c, rfl, hx1, hx2, hx3, hx4⟩ := HI1.out.at hkl
    rw [he]
    clear ha
    by_cases hc0 : c < 0
    · have HK := hid (kids_var he hx1 hc0)
      have hcn : ¬ 0 ≤ c := by omega
      clear he hx1
      go_wp2
      go_ret2
      exact ⟨_, by rw [HE.out]; rfl, by rw [HK.out]; exact nilI _ _, HB.out⟩
    · obtain ⟨us, q, u1, u2, u3, u4⟩ := kids_parts he hx1 hc0
      obtain ⟨cn, rfl⟩ : ∃ cn : Nat, c = cn := ⟨c.toNat, by omega⟩
      have hcn : (0 : Int) ≤ (cn : Int) := by omega
      have hcl : cn < sig.length := by
        have h1 := (term_parts (place_term he)).2
        have h2 := (at_place HA.out h1 hkl).2.2.1
        rw [drop_get hx1, firstT_cons] at h2
        cases hcd : codeD sig (cn : Int) with
        | none => rw [hcd] at h2; simp at h2
        | some e =>
          obtain ⟨s, hsg, _⟩ := codeD_get hcd
          exact (List.getElem?_eq_some_iff.1 hsg).1
      obtain ⟨g2, off2, nm, ar, rfl, hs1, hs2, hs3, hs4, hs5, hs6⟩ := HS1.out.at (k := cn) hcl
      have har := HA.out _ (List.mem_of_getElem? hs1)
      simp only at har
      have harn : us.length = ar.toNat := by rw [u1]; unfold arN; rw [Int.toNat_natCast, hs1]
      have HU2 := hid u2
      have HU3 := hid u3
      have HU4 := hid u4
      obtain ⟨an, rfl⟩ : ∃ an : Nat, ar = an := ⟨ar.toNat, by omega⟩
      rw [Int.toNat_natCast] at harn
      have hwk : IntKind.i64.wrap ((k : Int) + 1) = ((k + 1 : Nat) : Int) := by rw [IntWalk.i64_in _ ⟨by omega, by omega⟩]; omega
      clear he hx1 hs1 u1 u2 u3 u4
      go_wp2
      clear hwk
      go_loopw [9, 10, 11] (fun x kv iv wr => ∃ (i kk : Nat) (o : List Int), i ≤ an ∧ iv = .int .i64 i ∧ kv = .int .i64 kk ∧ t.drop kk = (us.drop i).flatten ++ q ∧ places (k + 1) (us.map List.length) = o ++ places kk ((us.drop i).map List.length) ∧ o.length = i ∧ OwI wr w1.heap.size x o ∧ Below w1.heap.size w1 wr) (fun _ _ iv _ => an - (intOf iv).toNat)
      case atStart => exact ⟨0, k + 1, [], Nat.zero_le _, rfl, rfl, HU2.out, rfl, rfl, nilI _ _, Below.refl _ _⟩
      case round =>
        obtain ⟨i, kk, o, hi, rfl, rfl, hdr, hpl, hol, how, hbl⟩ := hrel
        have HD := hid hdr
        have HP := hid hpl
        have HO := hid how
        have HBl := hid hbl
        have HOl := hid hol
        have hr2 := (Kp.of_below hbl).cell _ _ hx2
        have hr3 := (Kp.of_below hbl).cell _ _ hs3
        clear hdr hpl how hbl hol
        by_cases hlt : i < an
        · obtain ⟨u, hu⟩ : ∃ u, us[i]? = some u := ⟨_, List.getElem?_eq_getElem (by omega)⟩
          have hru := HU3.out u (List.mem_of_getElem? hu)
          have hd2 := HD.out
          rw [drop_next hu q] at hd2
          have hfe := first_right hru ((us.drop (i + 1)).flatten ++ q)
          rw [← hd2] at hfe
          have HFe := hid hfe
          have hkkl : kk < t.length := by
            by_cases hk : kk < t.length
            · exact hk
            · rw [List.drop_of_length_le (by omega)] at hfe
              simp [firstT] at hfe
          have HD2 : Hid (t.drop (kk + u.length) = (us.drop (i + 1)).flatten ++ q) := by
            show _ = _
            rw [← List.drop_drop, hd2, List.drop_left]
          have HP2 : Hid (places (k + 1) (us.map List.length) = (o ++ [(kk : Int)]) ++ places (kk + u.length) ((us.drop (i + 1)).map List.length)) := by
            show _ = _
            rw [HP.out, drop_get hu, List.map_cons, places, List.append_assoc]
            rfl
          obtain ⟨v6, w6, hr6, ho6, hg6, _⟩ := join_one 27 (c := (kk : Int)) HO.out (by omega) (by omega) HBl.out.size (by rw [HOl.out]; omega)
          have hb6 := (below_step HBl.out (below_alloc _)).grown hg6 (below_step HBl.out (below_alloc _)).size (fun j hj => own_blk HO.out.2 hj)
          have HR6 := hid hr6
          have HO6 := hid ho6
          have HB6 := hid hb6
          have HOl2 : Hid ((o ++ [(kk : Int)]).length = i + 1) := by show _ = _; rw [List.length_append, HOl.out]; rfl
          clear hd2 hfe hr6 ho6 hu hru hg6 hb6
          go_wp2_with (first
            | (at_builtin; refine wpList_append_run rfl _ _ _ rfl _ _ rfl rfl HR6.out ?_))
          refine (refEnd_any _ _ sig t kk u.length w6 (HS1.out.kp (Kp.of_below HB6.out)) (HI1.out.kp (Kp.of_below HB6.out)) HA.out hb HFe.out).mono ?_
          rintro e w9 ⟨rfl, hw9⟩
          have hw8 := hw9.symm
          subst hw8
          clear hw9
          go_wp2
          go_roundw
          case rel => exact ⟨i + 1, kk + u.length, o ++ [(kk : Int)], by omega, by go_num, by go_num, HD2.out, HP2.out, HOl2.out, HO6.out, HB6.out⟩
          case measure => simp [intOf]; omega
        · have hie : i = us.length := by omega
          have HF : Hid (kidsL sig t k = o) := by
            show _ = _
            rw [HU4.out, HP.out, hie, List.drop_length]
            simp [places]
          have HFo := hid (HO.out.mono HB.out.size)
          have HFb := hid (below_step HB.out HBl.out)
          clear hie
          go_wp2
          go_ret2
          exact ⟨_, by rw [HE.out]; rfl, by rw [HF.out]; exact HFo.out, HFb.out⟩
  · have HK := hid (kidsL_bad he)
    obtain ⟨E, hE⟩ : ∃ E, placeE sig t p = E := ⟨_, rfl⟩
    have HE := hid hE
    rw [hE] at he
    rw [hE]
    have heb : (E != 0) = true := by simpa using he
    clear hE
    go_wp2
    go_ret2
    exact ⟨_, by rw [HE.out]; rfl, by rw [HK.out]; exact nilI _ _, HB.out⟩

set_option maxRecDepth 100000 in
set_option maxHeartbeats 1600000 in
theorem refSub_any (sv v : Value) (sig : List Sy) (t : List Int) (p : Int) (w : World) (hs : Sg w sv sig) (h : Is w v t) (hb : t.length * 8 ≤ 140737488351232) (hp1 : -9223372036854775808 ≤ p) (hp2 : p ≤ 9223372036854775807) :
    Calls Tryd.prog 24 #[sv, v, .int .i64 p] w fun e w' => ∃ v', e = .returned (.tuple #[v', .int .i64 (placeE sig t p)]) ∧ OwI w' w.heap.size v' (subL sig t p) ∧ Below w.heap.size w w' := by
  obtain ⟨ao, cap, rfl, hao, hca, q0⟩ := Row.flat h
  unfold maxLen at hca
  have HS := hid hs
  have HI := hid h
  clear hs h q0
  go_enter Tryd.func24, Tryd.ntmps24
  go_wp2_with fail
  refine (refPlace_any _ _ sig t p w HS.out HI.out hb hp1 hp2).mono ?_
  rintro e w1 ⟨rfl, hb1⟩
  have HB := hid hb1
  clear hb1
  by_cases he : placeE sig t p = 0
  · obtain ⟨ha, hrt, k, _, hk, hkl, _⟩ := placeE_ok he
    subst hk
    obtain ⟨n1, n2, n3, _⟩ := at_place ha hrt hkl
    have HSub := hid (sub_eq (place_term he) hkl)
    have HE := hid he
    have HA := hid ha
    have HN := hid n3
    obtain ⟨n, hn⟩ : ∃ n, n = nodes sig t k := ⟨_, rfl⟩
    rw [← hn] at n1 n2 HN HSub
    obtain ⟨b, off, c0, rfl, _⟩ := HI.out.at (k := 0) (by omega)
    have hI3 := (HI.out.kp (Kp.of_below (b1 (o := .cells #[] 3) HB.out))).mid hkl n2
    have hI2 : Is (w1.alloc (.cells #[] 3)) (.slice (some ⟨b, off + k, none⟩) (k + n - k) (cap - k)) ((t.drop k).take n) := by rw [show k + n - k = n by omega]; exact hI3
    have hlm : ((t.drop k).take n).length = n := by rw [List.length_take, List.length_drop]; omega
    obtain ⟨va, w3, hr3, ho3, hg3⟩ := copy_ints 27 (base := w1.heap.size) (g := w1.heap.size) (empty_row (w := w1) 3 (Nat.le_refl _)) hI2 (below_alloc _).size (by rw [hlm]; omega)
    have HR3 := hid hr3
    have HO3 := hid (ho3.mono HB.out.size)
    have HB3 := hid (below_step HB.out (grown_below (below_alloc _) hg3 (Nat.le_refl _)))
    have hck : ¬ cap = k := by omega
    have hkc : k + n ≤ cap := by omega
    have hkc2 : k ≤ k + n := by omega
    rw [he]
    clear he ha hrt n3 hn hI2 hI3 hlm hr3 ho3 hg3
    go_wp2_with fail
    refine (refEnd_any _ _ sig t k n _ (HS.out.kp (Kp.of_below (b1 HB.out))) (HI.out.kp (Kp.of_below (b1 HB.out))) HA.out hb HN.out).mono ?_
    rintro e w9 ⟨rfl, hw9⟩
    have hw8 := hw9.symm
    subst hw8
    clear hw9
    go_wp2_with (first
      | (at_builtin; refine wpList_append_run rfl _ _ _ rfl _ _ rfl rfl HR3.out ?_))
    go_ret2
    exact ⟨_, by rw [HE.out]; rfl, by rw [HSub.out]; exact HO3.out, HB3.out⟩
  · have HK := hid (subL_bad he)
    obtain ⟨E, hE⟩ : ∃ E, placeE sig t p = E := ⟨_, rfl⟩
    have HE := hid hE
    rw [hE] at he
    rw [hE]
    have heb : (E != 0) = true := by simpa using he
    clear hE
    go_wp2
    go_ret2
    exact ⟨_, by rw [HE.out]; rfl, by rw [HK.out]; exact nilI _ _, HB.out⟩

/-- The places above a place, as they are told. -/
def aboveL (sig : List Sy) (t : List Int) (p : Int) : List Int := if placeE sig t p = 0 then (abD sig t p.toNat).map fun i : Nat => (i : Int) else []

set_option maxRecDepth 100000 in
set_option maxHeartbeats 1600000 in
theorem refAbove_any (sv v : Value) (sig : List Sy) (t : List Int) (p : Int) (w : World) (hs : Sg w sv sig) (h : Is w v t) (hb : t.length * 8 ≤ 140737488351232) (hp1 : -9223372036854775808 ≤ p) (hp2 : p ≤ 9223372036854775807) :
    Calls Tryd.prog 25 #[sv, v, .int .i64 p] w fun e w' => ∃ v', e = .returned (.tuple #[v', .int .i64 (placeE sig t p)]) ∧ OwI w' w.heap.size v' (aboveL sig t p) ∧ Below w.heap.size w w' := by
  have HS := hid hs
  have HI := hid h
  clear hs h
  go_enter Tryd.func25, Tryd.ntmps25
  go_wp2_with fail
  refine (refPlace_any _ _ sig t p w HS.out HI.out hb hp1 hp2).mono ?_
  rintro e w1 ⟨rfl, hb1⟩
  have HB := hid hb1
  clear hb1
  by_cases he : placeE sig t p = 0
  · obtain ⟨ha, hrt, k, _, hk, hkl, _⟩ := placeE_ok he
    subst hk
    have HAb : Hid (aboveL sig t k = ((List.range k).filter fun i => decide (k < i + nodes sig t i)).map fun i : Nat => (i : Int)) := by
      show _ = _
      unfold aboveL
      rw [if_pos he, Int.toNat_natCast]
      rfl
    have HE := hid he
    have HA := hid ha
    have HRt := hid hrt
    have HS1 := hid (HS.out.kp (Kp.of_below HB.out))
    have HI1 := hid (HI.out.kp (Kp.of_below HB.out))
    rw [he]
    clear he ha hrt
    go_wp2
    go_loopw [9, 10] (fun x iv wr => ∃ i : Nat, i ≤ k ∧ iv = .int .i64 i ∧ OwI wr w1.heap.size x (((List.range i).filter fun i => decide (k < i + nodes sig t i)).map fun i : Nat => (i : Int)) ∧ Below w1.heap.size w1 wr) (fun _ iv _ => k - (intOf iv).toNat)
    case atStart => exact ⟨0, Nat.zero_le _, rfl, nilI _ _, Below.refl _ _⟩
    case round =>
      obtain ⟨i, hi, rfl, how, hbl⟩ := hrel
      have HO := hid how
      have HBl := hid hbl
      clear how hbl
      by_cases hlt : i < k
      · obtain ⟨n1, n2, n3, _⟩ := at_place HA.out HRt.out (i := i) (by omega)
        have hfl : (((List.range i).filter fun i => decide (k < i + nodes sig t i)).map fun i : Nat => (i : Int)).length ≤ i := by
          rw [List.length_map]
          refine Nat.le_trans (List.length_filter_le _ _) ?_
          rw [List.length_range]
          exact Nat.le_refl _
        have hrs : (List.range (i + 1)).filter (fun i => decide (k < i + nodes sig t i)) = (List.range i).filter (fun i => decide (k < i + nodes sig t i)) ++ if k < i + nodes sig t i then [i] else [] := by
          rw [List.range_succ, List.filter_append]
          by_cases hk : k < i + nodes sig t i
          · rw [if_pos hk, List.filter_cons_of_pos (by simpa using hk)]
            rfl
          · rw [if_neg hk, List.filter_cons_of_neg (by simpa using hk)]
            rfl
        have HN := hid n3
        have HFl := hid hfl
        have HRs := hid hrs
        obtain ⟨n, hn⟩ : ∃ n, n = nodes sig t i := ⟨_, rfl⟩
        rw [← hn] at n1 n2 HN HRs
        clear n3 hn hfl hrs
        go_wp2_with fail
        refine (refEnd_any _ _ sig t i n wr (HS1.out.kp (Kp.of_below HBl.out)) (HI1.out.kp (Kp.of_below HBl.out)) HA.out hb HN.out).mono ?_
        rintro e w9 ⟨rfl, hw9⟩
        have hw8 := hw9.symm
        subst hw8
        clear hw9
        by_cases hgt : k < i + n
        · have HRs2 : Hid (((List.range (i + 1)).filter fun i => decide (k < i + nodes sig t i)).map (fun i : Nat => (i : Int)) = ((List.range i).filter fun i => decide (k < i + nodes sig t i)).map (fun i : Nat => (i : Int)) ++ [(i : Int)]) := by
            show _ = _
            rw [HRs.out, if_pos hgt, List.map_append]
            rfl
          obtain ⟨v6, w6, hr6, ho6, hg6, _⟩ := join_one 27 (c := (i : Int)) HO.out (by omega) (by omega) HBl.out.size (by have := HFl.out; omega)
          have hb6 := (below_step HBl.out (below_alloc _)).grown hg6 (below_step HBl.out (below_alloc _)).size (fun j hj => own_blk HO.out.2 hj)
          have HR6 := hid hr6
          have HO6 := hid ho6
          have HB6 := hid hb6
          have hgt2 : (k : Int) < ((i + n : Nat) : Int) := by omega
          clear hr6 ho6 hg6 hb6
          go_wp2_with (first
            | (at_builtin; refine wpList_append_run rfl _ _ _ rfl _ _ rfl rfl HR6.out ?_))
          go_roundw
          case rel => exact ⟨i + 1, by omega, by go_num, by rw [HRs2.out]; exact HO6.out, HB6.out⟩
          case measure => simp [intOf]; omega
        · have HRs2 : Hid ((List.range (i + 1)).filter (fun i => decide (k < i + nodes sig t i)) = (List.range i).filter (fun i => decide (k < i + nodes sig t i))) := by
            show _ = _
            rw [HRs.out, if_neg hgt, List.append_nil]
          have hgt2 : ¬ (k : Int) < ((i + n : Nat) : Int) := by omega
          go_wp2
          go_roundw
          case rel => exact ⟨i + 1, by omega, by go_num, by rw [HRs2.out]; exact HO.out, HBl.out⟩
          case measure => simp [intOf]; omega
      · have hik : i = k := by omega
        subst hik
        have HFo := hid (HO.out.mono HB.out.size)
        have HFb := hid (below_step HB.out HBl.out)
        go_wp2
        go_ret2
        exact ⟨_, by rw [HE.out]; rfl, by rw [HAb.out]; exact HFo.out, HFb.out⟩
  · have HK : Hid (aboveL sig t p = []) := by show _ = _; unfold aboveL; rw [if_neg he]
    obtain ⟨E, hE⟩ : ∃ E, placeE sig t p = E := ⟨_, rfl⟩
    have HE := hid hE
    rw [hE] at he
    rw [hE]
    have heb : (E != 0) = true := by simpa using he
    clear hE
    go_wp2
    go_ret2
    exact ⟨_, by rw [HE.out]; rfl, by rw [HK.out]; exact nilI _ _, HB.out⟩

end Go.Proofs.YtjcgngfidnechaaDoor

/- What the law file's helpers do: same, lent, kept, spoil, three, which. -/
namespace Go.Proofs.YtjcgngfidnechaaDoor
open Go.RowKit Go.Maps Go.BigFrame

set_option maxHeartbeats 400000 in
theorem same3_any (v u : Value) (xs ys : List Int) (w : World) (h : Is w v xs) (h' : Is w u ys) :
    Calls Tryd.prog 17 #[v, u] w fun e w' => e = .returned (.bool (decide (xs = ys))) ∧ ∃ n, w' = w.drewN n := by
  obtain ⟨ao, cap, rfl, hao, hca, hcl⟩ := h.flatI
  obtain ⟨bo, cap', rfl, hbo, hcb, hcl'⟩ := h'.flatI
  clear h h'
  by_cases hl : xs.length = ys.length
  · have hle : ((xs.length : Int) != ys.length) = false := by simp; omega
    go_enter Tryd.func17, Tryd.ntmps17
    go_wp2
    go_loopw [5] (fun i wr => ∃ k : Nat, k ≤ xs.length ∧ i = .int .i64 k ∧ xs.take k = ys.take k ∧ ∃ n, wr = w.drewN n) (fun i _ => xs.length - (intOf i).toNat)
    case atStart => exact ⟨0, Nat.zero_le _, rfl, rfl, 0, rfl⟩
    case round =>
      obtain ⟨k, hk, rfl, ht, n, rfl⟩ := hrel
      have HT : Hid (xs.take k = ys.take k) := ht
      clear ht
      by_cases hlt : k < xs.length
      · obtain ⟨g, off, x, rfl, hx1, hx3⟩ := hcl k hlt
        obtain ⟨g', off', y, rfl, hy1, hy3⟩ := hcl' k (by omega)
        have HX : Hid (xs[k]? = some x) := hx1
        have HY : Hid (ys[k]? = some y) := hy1
        have hlt' : k < ys.length := by omega
        clear hx1 hy1 hcl hcl'
        by_cases hxy : x = y
        · subst hxy
          have hxx : (x != x) = false := by simp
          go_wp2
          go_quiet (fail)
          go_wp2
          go_roundw
          case rel => exact ⟨k + 1, by omega, by go_num, by rw [take_get HX.out, take_get HY.out, HT.out], _, rfl⟩
          case measure => simp [intOf]; omega
        · have hne : (x != y) = true := by rw [bne_iff_ne]; exact hxy
          go_wp2
          go_quiet (fail)
          go_wp2
          go_ret
          exact ⟨ret1b (by rw [eq_comm, decide_eq_false_iff_not]; rintro rfl; have := HX.out.symm.trans HY.out; simp at this; exact hxy this), _, World.drewN_drewN _ _ _⟩
      · have hk' : k = xs.length := by omega
        go_wp2
        go_ret
        refine ⟨ret1b ?_, n, rfl⟩
        have := HT.out
        rw [List.take_of_length_le (by omega), List.take_of_length_le (by omega)] at this
        simp [this]
  · have hle : ((xs.length : Int) != ys.length) = true := by rw [bne_iff_ne]; omega
    go_enter Tryd.func17, Tryd.ntmps17
    go_wp2
    go_ret
    exact ⟨ret1b (by rw [eq_comm, decide_eq_false_iff_not]; rintro rfl; exact hl rfl), 0, rfl⟩

theorem join_two (ty : TypeId) {w : World} {base : Nat} {x u : Value} {xs es : List Int} (ho : OwI w base x xs) (hs : Is w u es) (hb : base ≤ w.heap.size) (hl : (xs.length + es.length) * 8 ≤ 140737488355328) :
    ∃ v' w', (Builtin.append_ #[27, 27] ty #[x, u]).run Tryd.prog w = .ok v' w' ∧ OwI w' base v' (xs ++ es) ∧ w.grownBy w' x.ownBlock ∧ (v'.ownBlock = x.ownBlock ∨ v'.ownBlock = some w.heap.size) := by
  obtain ⟨i0, hi, hz0, hz1, hz2⟩ := info_parts info_int
  have hZ : ZI es := fun k x hk => by
    obtain ⟨ao, cap, rfl, _, _, hx⟩ := Row.flat hs
    obtain ⟨_, _, y, _, hy, h1, h2, _⟩ := hx k (List.getElem?_eq_some_iff.1 hk).1
    rw [hk] at hy
    cases hy
    exact ⟨h1, h2⟩
  have hZ2 : ZI (xs ++ es) := fun k y hk => by
    by_cases hkl : k < xs.length
    · rw [List.getElem?_append_left hkl] at hk
      exact ho.1 k y hk
    · rw [List.getElem?_append_right (by omega)] at hk
      exact hZ _ y hk
  obtain ⟨ao, cap, rfl, hc, hm, hx⟩ := hs
  by_cases h0 : es.length = 0
  · obtain rfl : es = [] := List.eq_nil_of_length_eq_zero h0
    obtain ⟨bo, bc, rfl, hbc, _⟩ := ho.shape
    refine ⟨_, w, run_append_nothing w 27 27 ty 3 i0 under_ints hi _ xs.length bc hbc _ ?_, by rw [List.append_nil]; exact ho, World.grownBy.refl _ _, .inl rfl⟩
    cases ao with
    | none => exact Src.ofNil w under_ints _
    | some a => exact Src.ofSlice w under_ints a 0 _ [] (by simp) (fun j u hj => (by simp at hj)) (fun u hu => (by simp at hu))
  · obtain ⟨g', off, rfl, hg, hcell⟩ := hx (by omega)
    obtain ⟨v', w', hr, h2, h3, _, h5⟩ := run_append_own_at (P := Tryd.prog) w base 27 ty 3 i0 _ 1 8 under_ints hi hz0 hz1 hz2 rfl (by decide) _ xs.length (xs.map I64) ho.2 ⟨g', off, none⟩ es.length cap (es.map I64) (by simp) (fun j u hj => by
      rw [List.getElem?_map] at hj
      cases hk : es[j]? with
      | none => rw [hk] at hj; simp at hj
      | some x =>
        rw [hk] at hj
        simp at hj
        subst hj
        rw [Addr.add_lit]
        have := (hcell j x hk).2.2
        rw [Nat.mul_one] at this
        exact this) (fun u hu => by obtain ⟨x, _, rfl⟩ := List.mem_map.1 hu; rfl) (by unfold maxLen; omega) (by omega) hb
    refine ⟨v', w', hr, ⟨hZ2, ?_⟩, h3, h5⟩
    rw [List.length_append, List.map_append]
    exact h2

theorem I64_one (xs : List Int) : ∀ u ∈ xs.map I64, u.oneCell' = true := fun u hu => by obtain ⟨x, _, rfl⟩ := List.mem_map.1 hu; rfl

theorem run_copy_ints {w : World} {base g n cap cap' : Nat} {ao : Option Addr} {zs xs : List Int} (ho : OwI w base (.slice (some ⟨g, 0, none⟩) n cap) zs) (hn : n = zs.length)
    (hs : Is w (.slice ao xs.length cap') xs) (hle : xs.length ≤ n) :
    ∃ w', (Builtin.copy_ #[27, 27] 3 #[.slice (some ⟨g, 0, none⟩) n cap, .slice ao xs.length cap']).run Tryd.prog w = .ok (goInt xs.length) w' ∧
      OwI w' base (.slice (some ⟨g, 0, none⟩) n cap) (xs ++ zs.drop xs.length) ∧ w.grownBy w' (some g) := by
  subst hn
  have hsz : (Tryd.prog.info? 3).map (·.size) = some 1 := by kernel_rfl
  by_cases h0 : xs.length = 0
  · obtain rfl : xs = [] := List.eq_nil_of_length_eq_zero h0
    have := run_copy_none (P := Tryd.prog) w 27 27 3 3 (some ⟨g, 0, none⟩) ao zs.length cap 0 cap' under_ints hsz (by simp)
    exact ⟨w, this, by simpa using ho, World.grownBy.refl _ _⟩
  · have hZ := hs.range
    obtain ⟨ao', c', hv, hc, hm, hx⟩ := hs
    simp only [Value.slice.injEq] at hv
    obtain ⟨rfl, _, rfl⟩ := hv
    obtain ⟨g', off, rfl, hg, hx⟩ := hx (by omega)
    rcases ho.2.2 with ⟨hv, _⟩ | ⟨g2, cap2, cur, hv, hb, hg2, hc2, hm2, hs2, ht2⟩
    · simp at hv
    · simp only [Value.slice.injEq, Option.some.injEq, Addr.mk.injEq, and_true, true_and] at hv
      obtain ⟨rfl, rfl⟩ := hv
      have hmin : xs.length = Nat.min xs.length zs.length := (Nat.min_eq_left hle).symm
      have hcur : zs.length ≤ cur.size := by omega
      have := run_copy_row (P := Tryd.prog) w 27 27 3 3 g 0 zs.length cap ⟨g', off, none⟩ xs.length cap' cur 3 (xs.map I64) under_ints hsz hg2
        (by simpa using hmin) (by
          intro j v hj
          simp only [List.getElem?_map, Option.map_eq_some_iff] at hj
          obtain ⟨x, hx1, rfl⟩ := hj
          rw [Addr.add_lit]
          have := (hx j x hx1).2.2
          rw [Nat.mul_one] at this
          exact this) (by simp; omega) (I64_one xs)
      refine ⟨_, by simpa using this, ⟨?_, ?_, .inr ⟨g, cap, _, by rw [List.length_append, List.length_drop, show xs.length + (zs.length - xs.length) = zs.length by omega], hb, setRow_heap w g cur _ 3 _ hg2, ?_, hm2, ?_, ?_⟩⟩, ?_⟩
      · intro k y hk
        by_cases hkl : k < xs.length
        · rw [List.getElem?_append_left hkl] at hk
          exact hZ k y hk
        · rw [List.getElem?_append_right (by omega), List.getElem?_drop] at hk
          exact ho.1 _ y hk
      · simp
      · simp; omega
      · simp; omega
      · have hl : (xs.map I64).length = xs.length := by simp
        rw [List.length_append, List.length_drop, show xs.length + (zs.length - xs.length) = zs.length by omega]
        simp only [List.map_append, List.map_drop, ← ht2, List.drop_take, Nat.mul_one]
        rw [List.take_append, hl, List.take_of_length_le (by simp; omega)]
      · exact ⟨rfl, rfl, rfl, by simp [World.setRow], fun k _ hk => setRow_other w g k _ (fun e => hk (by simp [e]))⟩

/-- A row and three marks behind it. -/
def marked (xs : List Int) : List Int := xs ++ [77, 77, 77]

theorem mark_step (xs R : List Int) (k : Nat) : (xs ++ List.replicate k 77) ++ 77 :: R = (xs ++ List.replicate (k + 1) 77) ++ R := by
  rw [List.replicate_succ']; simp

theorem get_midI {α : Type} {L : List α} {x : α} {R : List α} {k : Nat} (hk : L.length = k) : (L ++ x :: R)[k]? = some x := by subst hk; simp

set_option maxRecDepth 100000 in
set_option maxHeartbeats 800000 in
theorem lent_any (v : Value) (xs : List Int) (w : World) (h : Is w v xs) (hlen : xs.length * 8 ≤ 140737488351232) :
    Calls Tryd.prog 12 #[v] w fun e w' => ∃ g, e = .returned (.slice (some ⟨g, 0, none⟩) xs.length (xs.length + 3)) ∧ OwI w' w.heap.size (.slice (some ⟨g, 0, none⟩) (xs.length + 3) (xs.length + 3)) (marked xs) ∧ Below w.heap.size w w' := by
  obtain ⟨ao, cap, rfl, hao, hca, hcl⟩ := h.flatI
  obtain ⟨i0, hi, hz0, hz1, hz2⟩ := info_parts info_int
  have HS := hid h
  clear h hcl
  go_enter Tryd.func12, Tryd.ntmps12
  go_wp2_with (first
    | (at_make; refine wpList_make_full _ rfl _ _ 27 rfl w.heap.size 3 i0 (.int .i64 0) 1 under_ints hi hz0 hz1 .i64 .i64 _ _ (xs.length + 3) rfl rfl (by omega) (by omega) (by rw [hz2]; omega) (by unfold maxLen; omega) (Nat.le_refl _) ?_; intro w0 hown0 hgrow0))
  have hb0 : Below w.heap.size w w0 := (Below.refl _ _).grown hgrow0 (Nat.le_refl _) (by intro k hk; cases hk)
  obtain ⟨w1, hrun, ho1, hg1⟩ := run_copy_ints (OwI.made hown0) (by simp) (HS.out.kp (Kp.of_below hb0)) (by omega)
  have hb1 : Below w.heap.size w w1 := hb0.grown hg1 hb0.size (by intro k hk; simp at hk; omega)
  have HO : Hid (OwI w1 w.heap.size (.slice (some ⟨w.heap.size, 0, none⟩) (xs.length + 3) (xs.length + 3)) ((xs ++ List.replicate (xs.length - xs.length) 77) ++ List.replicate (xs.length + 3 - xs.length) 0)) := by
    have := ho1
    rw [List.drop_replicate] at this
    rw [Nat.sub_self, List.replicate_zero, List.append_nil]
    exact this
  rw [hrun]
  clear hown0 hgrow0 ho1 hg1 hb0
  go_wp2
  clear hrun
  go_loopw [4] (fun i wr => ∃ p : Nat, xs.length ≤ p ∧ p ≤ xs.length + 3 ∧ i = .int .i64 p ∧ OwI wr w.heap.size (.slice (some ⟨w.heap.size, 0, none⟩) (xs.length + 3) (xs.length + 3)) ((xs ++ List.replicate (p - xs.length) 77) ++ List.replicate (xs.length + 3 - p) 0) ∧ Below w.heap.size w wr)
    (fun i _ => xs.length + 3 - (intOf i).toNat)
  case atStart => exact ⟨xs.length, Nat.le_refl _, by omega, rfl, HO.out, hb1⟩
  case round =>
    obtain ⟨p, hp1, hp2, rfl, hown, hbl⟩ := hrel
    have HW := hid hown
    clear hown HO hb1
    by_cases hlt : p < xs.length + 3
    · have hw := HW.out
      rw [show xs.length + 3 - p = (xs.length + 3 - (p + 1)) + 1 by omega, List.replicate_succ] at hw
      have hlp : (xs ++ List.replicate (p - xs.length) 77).length = p := by simp; omega
      obtain ⟨hcell, hfr⟩ := hw.at (k := p) (get_midI hlp)
      have hq := hw.put hbl (Nat.le_refl _) (by simp; omega) (k := p) (z := 77) (by omega) (ys := (xs ++ List.replicate (p + 1 - xs.length) 77) ++ List.replicate (xs.length + 3 - (p + 1)) 0) (by rw [set_midI _ _ _ _ _ hlp, mark_step, show p - xs.length + 1 = p + 1 - xs.length by omega])
      have HP := hid hq
      clear hq hw hlp
      go_wp2
      go_roundw
      case rel => exact ⟨p + 1, by omega, by omega, by go_num, HP.out.1, HP.out.2⟩
      case measure => simp [intOf]; omega
    · have hp' : p = xs.length + 3 := by omega
      subst hp'
      have hw := HW.out
      rw [Nat.sub_self, List.replicate_zero, List.append_nil, show xs.length + 3 - xs.length = 3 by omega] at hw
      have HW2 : Hid (OwI wr w.heap.size (.slice (some ⟨w.heap.size, 0, none⟩) (xs.length + 3) (xs.length + 3)) (marked xs)) := hw
      clear hw HW
      go_wp2
      go_ret
      exact ⟨_, rfl, HW2.out, hbl⟩

theorem marked_lo {xs : List Int} {k : Nat} {x : Int} (h : xs[k]? = some x) : (marked xs)[k]? = some x := by
  have hk := (List.getElem?_eq_some_iff.1 h).1
  unfold marked
  rw [List.getElem?_append_left hk, h]

theorem marked_hi {xs : List Int} {k : Nat} (h1 : ¬ k < xs.length) (h2 : k < xs.length + 3) : (marked xs)[k]? = some 77 := by
  unfold marked
  rw [List.getElem?_append_right (by omega)]
  obtain ⟨j, rfl⟩ : ∃ j, k = xs.length + j := ⟨k - xs.length, by omega⟩
  rw [Nat.add_sub_cancel_left]
  match j, (by omega : j < 3) with
  | 0, _ => rfl
  | 1, _ => rfl
  | 2, _ => rfl

theorem cutI {w : World} {base g n cap : Nat} {xs ys : List Int} (h : OwI w base (.slice (some ⟨g, 0, none⟩) n cap) (xs ++ ys)) : Is w (.slice (some ⟨g, 0, none⟩) xs.length cap) xs := by
  obtain ⟨ao, cp, hv, hc, hm, hx⟩ := h.is
  simp only [Value.slice.injEq] at hv
  obtain ⟨rfl, _, rfl⟩ := hv
  rw [List.length_append] at hc
  refine ⟨_, cap, rfl, by omega, hm, fun h0 => ?_⟩
  obtain ⟨g', off, e, hg, hcell⟩ := hx (by rw [List.length_append]; omega)
  simp only [Option.some.injEq, Addr.mk.injEq, and_true] at e
  obtain ⟨rfl, rfl⟩ := e
  exact ⟨g, 0, rfl, hg, fun k x hk => hcell k x (by rw [List.getElem?_append_left (List.getElem?_eq_some_iff.1 hk).1]; exact hk)⟩

set_option maxRecDepth 100000 in
set_option maxHeartbeats 800000 in
theorem kept_any (g base : Nat) (u : Value) (xs : List Int) (w : World) (h : OwI w base (.slice (some ⟨g, 0, none⟩) (xs.length + 3) (xs.length + 3)) (marked xs)) (h' : Is w u xs) (hlen : xs.length * 8 ≤ 140737488351232) :
    Calls Tryd.prog 18 #[.slice (some ⟨g, 0, none⟩) xs.length (xs.length + 3), u] w fun e w' => e = .returned (.bool true) ∧ ∃ n, w' = w.drewN n := by
  obtain ⟨bo, cap', rfl, hbo, hcb, hcl'⟩ := h'.flatI
  have HO := hid h
  clear h h'
  go_enter Tryd.func18, Tryd.ntmps18
  go_wp2
  go_loopw [5] (fun i wr => ∃ k : Nat, k ≤ xs.length + 3 ∧ i = .int .i64 k ∧ ∃ n, wr = w.drewN n) (fun i _ => xs.length + 3 - (intOf i).toNat)
  case atStart => exact ⟨0, Nat.zero_le _, rfl, 0, rfl⟩
  case round =>
    obtain ⟨k, hk, rfl, n, rfl⟩ := hrel
    by_cases hlt : k < xs.length + 3
    · by_cases hkx : k < xs.length
      · obtain ⟨g', off', x, rfl, hx1, hx2⟩ := hcl' k hkx
        obtain ⟨hcell, _⟩ := HO.out.at (marked_lo hx1)
        clear hx1 hcl'
        have d2 : decide (xs.length ≤ k) = false := by simp; omega
        have hxx : (x != x) = false := by simp
        go_wp2
        go_quiet (fail)
        go_wp2
        go_roundw
        case rel => exact ⟨k + 1, by omega, by go_num, _, rfl⟩
        case measure => simp [intOf]; omega
      · obtain ⟨hcell, _⟩ := HO.out.at (marked_hi hkx hlt)
        have hcell0 : w.cell? ⟨g, k, none⟩ = some (.int .i64 77) := hcell
        clear hcell hcl'
        have d1 : decide (k < xs.length) = false := by simp; omega
        have d2 : decide (xs.length ≤ k) = true := by simp; omega
        go_wp2
        go_quiet (fail)
        go_wp2
        go_roundw
        case rel => exact ⟨k + 1, by omega, by go_num, _, rfl⟩
        case measure => simp [intOf]; omega
    · have hk' : k = xs.length + 3 := by omega
      clear hcl'
      go_wp2
      go_ret
      exact ⟨rfl, n, rfl⟩

theorem grown_stepT {a b c : World} {r r' : Option Nat} (h : a.grownBy b r) (h' : b.grownBy c r') (hr : ∀ g, r' = some g → r = some g ∨ a.heap.size ≤ g) : a.grownBy c r :=
  ⟨h'.os.trans h.os, h'.tape.trans h.tape, h'.output.trans h.output, Nat.le_trans h.size h'.size, fun k hk hne => (h'.block k (Nat.lt_of_lt_of_le hk h.size) (fun e => by
    rcases hr k e.symm with h1 | h1
    · exact hne h1.symm
    · omega)).trans (h.block k hk hne)⟩

set_option maxRecDepth 100000 in
set_option maxHeartbeats 1000000 in
theorem spoil_any (v : Value) (xs : List Int) (base : Nat) (w : World) (h : OwI w base v xs) (hb0 : base ≤ w.heap.size) (h64 : (xs.length + 2) * 8 ≤ 140737488355328) :
    Calls Tryd.prog 19 #[v] w fun e w' => e = .returned (.tuple #[]) ∧ w.grownBy w' v.ownBlock := by
  obtain ⟨ao, cap, rfl, hc1, hc2⟩ := h.shape
  unfold maxLen at hc2
  have HO := hid h
  clear h
  go_enter Tryd.func19, Tryd.ntmps19
  go_wp2
  go_loopw [2] (fun i wr => ∃ (k : Nat) (Z : List Int), k ≤ xs.length ∧ i = .int .i64 k ∧ Z.length = xs.length ∧ OwI wr base (.slice ao xs.length cap) Z ∧ w.grownBy wr (Value.slice ao xs.length cap).ownBlock) (fun i _ => xs.length - (intOf i).toNat)
  case atStart => exact ⟨0, xs, Nat.zero_le _, rfl, rfl, HO.out, World.grownBy.refl _ _⟩
  case round =>
    obtain ⟨k, Z, hk, rfl, hZ, hown, hgr⟩ := hrel
    have HZ := hid hZ
    have HW := hid hown
    have HG := hid hgr
    clear hZ hown hgr
    by_cases hlt : k < xs.length
    · obtain ⟨g, cp, hv⟩ := own_form (v := .slice ao xs.length cap) HW.out.2 (by rw [HZ.out]; omega)
      simp only [Value.slice.injEq] at hv
      obtain ⟨rfl, _, rfl⟩ := hv
      obtain ⟨x, hx⟩ : ∃ x, Z[k]? = some x := ⟨_, List.getElem?_eq_getElem (by rw [HZ.out]; exact hlt)⟩
      obtain ⟨hcell, hfr⟩ := HW.out.at hx
      have hp := (HW.out.put (B := 0) (w0 := wr) (Below.refl _ _) (Nat.zero_le _) HZ.out.symm (k := k) (z := 99) (by omega) rfl).1
      have HP := hid hp
      have HG2 := hid (grown_trans HG.out (set_grown wr g k (.int .i64 99)))
      clear hp hx
      go_wp2
      go_roundw
      case rel => exact ⟨k + 1, _, by omega, by go_num, by rw [List.length_set, HZ.out], HP.out, HG2.out⟩
      case measure => simp [intOf]; omega
    · have hk' : k = xs.length := by omega
      subst hk'
      obtain ⟨v4, w4, hr4, ho4, hg4, hn4⟩ := join_two 27 (u := .slice (some ⟨wr.heap.size, 0, none⟩) 2 2) (es := [98, 97]) (HW.out.later (below_alloc (.cells #[.int .i64 98, .int .i64 97] 3))) (is_new wr [98, 97] _ (by intro x hx; simp at hx; omega) (by simp)) (Nat.le_trans hb0 (Nat.le_trans HG.out.size (below_alloc _).size)) (by rw [HZ.out]; simp; omega)
      have hl4 : (Z ++ [98, 97]).length = xs.length + 2 := by rw [List.length_append, HZ.out]; rfl
      obtain ⟨g4, c4, rfl⟩ := own_form ho4.2 (by rw [hl4]; omega)
      rw [hl4] at hr4 ho4
      obtain ⟨hc4, hf4⟩ := ho4.at (k := xs.length + 1) (x := 97) (by rw [← HZ.out, List.getElem?_append_right (by omega)]; simp)
      have HR4 := hid hr4
      have hcc : xs.length + 2 ≤ c4 ∧ c4 ≤ 9223372036854775807 := by
        obtain ⟨_, c9, e9, h8, h9⟩ := ho4.shape
        simp only [Value.slice.injEq] at e9
        obtain ⟨_, _, rfl⟩ := e9
        rw [hl4] at h8
        unfold maxLen at h9
        omega
      have HF : Hid (w.grownBy (w4.setCell ⟨g4, xs.length + 1, none⟩ (.int .i64 96)) (Value.slice ao xs.length cap).ownBlock) := by
        have g1 := grown_trans HG.out (grown_of_below (below_alloc (.cells #[.int .i64 98, .int .i64 97] 3)) _)
        have g2 := grown_trans g1 hg4
        refine grown_stepT g2 (set_grown w4 g4 (xs.length + 1) (.int .i64 96)) (fun g e => ?_)
        cases e
        rcases hn4 with hn | hn
        · exact .inl hn.symm
        · simp only [Value.ownBlock, Option.some.injEq] at hn
          have := g1.size
          exact .inr (by omega)
      have hwn : IntKind.i64.wrap ((xs.length : Int) + 2 - 1) = (xs.length : Int) + 1 := by rw [IntWalk.i64_in _ ⟨by omega, by omega⟩]; omega
      clear hr4 ho4 hg4 hn4 hl4
      go_wp2_with (first
        | (at_builtin; refine wpList_append_run rfl _ _ _ rfl _ _ rfl rfl HR4.out ?_))
      go_end0
      exact ⟨rfl, HF.out⟩

set_option maxRecDepth 100000 in
theorem three_any (w : World) : Calls Tryd.prog 29 #[] w fun e w' => ∃ v', e = .returned v' ∧ Sg w' v' sumS ∧ Below w.heap.size w w' := by
  go_enter Tryd.func29, Tryd.ntmps29
  go_wp2
  go_ret
  refine ⟨_, rfl, sg_lit (p := sumS) (by simp) (by decide) ⟨⟨by decide, by decide, by decide, cell_new rfl, cell_new rfl⟩, ⟨by decide, by decide, by decide, cell_new rfl, cell_new rfl⟩, ⟨by decide, by decide, by decide, cell_new rfl, cell_new rfl⟩, trivial⟩, below_alloc _⟩

/-- Which of n places. -/
def whichN (c : Int) (n : Nat) : Nat := ((if c < 0 then -(c + 1) else c) % (n : Int)).toNat

theorem which_lt (c : Int) (n : Nat) (hn : 0 < n) : whichN c n < n := by
  unfold whichN
  have h1 := Int.emod_nonneg (if c < 0 then -(c + 1) else c) (b := (n : Int)) (by omega)
  have h2 := Int.emod_lt_of_pos (if c < 0 then -(c + 1) else c) (b := (n : Int)) (by omega)
  omega

end Go.Proofs.YtjcgngfidnechaaDoor
