/- SubstParts. -/
import Derived.Test.YtifpanfgojfbkaaDoorTPartsB
namespace Go.Proofs.YtifpanfgojfbkaaDoor
open Go.RowKit Go.Maps Go.BigFrame

theorem join_ints2 (ty : TypeId) {w : World} {base : Nat} {x u : Value} {xs es : List Int} (ho : OwI w base x xs) (hs : Is w u es) (hb : base ≤ w.heap.size) (hl : (xs.length + es.length) * 8 ≤ 140737488355328) :
    ∃ v' w', (Builtin.append_ #[30, 30] ty #[x, u]).run Tryd.prog w = .ok v' w' ∧ OwI w' base v' (xs ++ es) ∧ w.grownBy w' x.ownBlock ∧ (v'.ownBlock = x.ownBlock ∨ v'.ownBlock = some w.heap.size) := by
  obtain ⟨i0, hi, hz0, hz1, hz2⟩ := info_parts info_int
  have hZ : ZI es := fun k x hk => by
    obtain ⟨ao, cap, rfl, _, _, hx⟩ := Row.flat hs
    obtain ⟨_, _, y, _, hy, h1, h2, _⟩ := hx k (List.getElem?_eq_some_iff.1 hk).1
    rw [hk] at hy
    cases hy
    exact ⟨h1, h2⟩
  have hZ2 : ZI (xs ++ es) := fun k y hk => by
    by_cases hkl : k < xs.length
    · rw [List.getElem?_append_left hkl] at hk
      exact ho.1 k y hk
    · rw [List.getElem?_append_right (by omega)] at hk
      exact hZ _ y hk
  obtain ⟨ao, cap, rfl, hc, hm, hx⟩ := hs
  by_cases h0 : es.length = 0
  · obtain rfl : es = [] := List.eq_nil_of_length_eq_zero h0
    obtain ⟨bo, bc, rfl, hbc, _⟩ := ho.shape
    refine ⟨_, w, run_append_nothing w 30 30 ty 3 i0 under_ints hi _ xs.length bc hbc _ ?_, by rw [List.append_nil]; exact ho, World.grownBy.refl _ _, .inl rfl⟩
    cases ao with
    | none => exact Src.ofNil w under_ints _
    | some a => exact Src.ofSlice w under_ints a 0 _ [] (by simp) (fun j u hj => (by simp at hj)) (fun u hu => (by simp at hu))
  · obtain ⟨g', off, rfl, hg, hcell⟩ := hx (by omega)
    obtain ⟨v', w', hr, h2, h3, _, h5⟩ := run_append_own_at (P := Tryd.prog) w base 30 ty 3 i0 _ 1 8 under_ints hi hz0 hz1 hz2 rfl (by decide) _ xs.length (xs.map I64) ho.2 ⟨g', off, none⟩ es.length cap (es.map I64) (by simp) (fun j u hj => by
      rw [List.getElem?_map] at hj
      cases hk : es[j]? with
      | none => rw [hk] at hj; simp at hj
      | some x =>
        rw [hk] at hj
        simp at hj
        subst hj
        rw [Addr.add_lit]
        have := (hcell j x hk).2.2
        rw [Nat.mul_one] at this
        exact this) (fun u hu => by obtain ⟨x, _, rfl⟩ := List.mem_map.1 hu; rfl) (by unfold maxLen; omega) (by omega) hb
    refine ⟨v', w', hr, ⟨hZ2, ?_⟩, h3, h5⟩
    rw [List.length_append, List.map_append]
    exact h2

theorem bs_none {w : World} {g : Nat} : Bs w (.slice (some ⟨g, 0, none⟩) 0 0) [] := ⟨some ⟨g, 0, none⟩, 0, rfl, Nat.le_refl _, by simp [maxLen], fun h0 => absurd h0 (by simp)⟩

set_option maxRecDepth 100000 in
set_option maxHeartbeats 6400000 in
theorem substParts_any (sv bv v : Value) (sig : List Sy) (s : List Bd) (t : List Int) (w : World) (hs : Sg w sv sig) (hB : Bs w bv s) (hI : Is w v t) (hT : Tabs w) (ht : t.length * 8 ≤ 140737488351232) :
    Calls Tryd.prog 8 #[sv, bv, v] w fun e w' => e = .returned (.bool true) ∧ Below w.heap.size w w' := by
  obtain ⟨ao, cap, rfl, hao, hca, _⟩ := Row.flat hI
  obtain ⟨bo, bc, rfl, hbo, hbc, _⟩ := Row.flat hB
  unfold maxLen at hca hbc
  have HS := hid hs
  have HBs := hid hB
  have HI := hid hI
  have HT := hid hT
  clear hs hB hT hI
  go_enter Tryd.func8, Tryd.ntmps8
  go_wp2_with fail
  refine (shown_any w HT.out).mono ?_
  rintro e w1 ⟨rfl, hb1⟩
  have HB1 := hid hb1
  clear hb1
  go_wp2_with fail
  refine (apply_any sv _ _ sig s t w1 (HS.out.kp (Kp.of_below HB1.out)) (HBs.out.kp (Kp.of_below HB1.out)) (HI.out.kp (Kp.of_below HB1.out)) (HT.out.below HB1.out) ht).mono ?_
  rintro e w2 ⟨a2, rfl, ho2, hb2⟩
  have HB2 := hid (b1 (o := .cells #[] 43) (below_step HB1.out hb2))
  have HA2 := hid (ho2.later (below_alloc (.cells #[] 43)))
  have HEm : Hid (Bs (w2.alloc (.cells #[] 43)) (.slice (some ⟨w2.heap.size, 0, none⟩) 0 0) []) := bs_none
  clear ho2 hb2
  go_wp2_with fail
  refine (apply_any sv _ _ sig [] t _ (HS.out.kp (Kp.of_below HB2.out)) HEm.out (HI.out.kp (Kp.of_below HB2.out)) (HT.out.below HB2.out) ht).mono ?_
  rintro e w3 ⟨a3, rfl, ho3, hb3⟩
  have HB3 := hid (below_step HB2.out hb3)
  have HA3 := hid (HA2.out.later hb3)
  have HN3 := hid ho3.is
  have HA3i := hid HA3.out.is
  clear ho3 hb3 HA2 HEm
  go_wp2_with fail
  refine (refCheck_any sv _ sig t w3 (HS.out.kp (Kp.of_below HB3.out)) (HI.out.kp (Kp.of_below HB3.out)) ht).mono ?_
  rintro e w4 ⟨rfl, hb4⟩
  have HB4 := hid (below_step HB3.out hb4)
  have HA4 := hid (HA3i.out.kp (Kp.of_below hb4))
  have HN4 := hid (HN3.out.kp (Kp.of_below hb4))
  clear hb4
  by_cases hte : termE sig t = 0
  · have HTe := hid hte
    rw [hte]
    clear hte
    go_wp2_with fail
    refine (refBinds_any sv _ sig s w4 (HS.out.kp (Kp.of_below HB4.out)) (HBs.out.kp (Kp.of_below HB4.out))).mono ?_
    rintro e w5 ⟨rfl, hb5⟩
    have HB5 := hid (below_step HB4.out hb5)
    have HA5 := hid (HA4.out.kp (Kp.of_below hb5))
    have HN5 := hid (HN4.out.kp (Kp.of_below hb5))
    clear hb5
    by_cases hbe : bindE sig s = 0
    · have HBe := hid hbe
      rw [hbe]
      clear hbe HA4 HN4 HA3 HA3i HN3
      obtain ⟨hn1, hn2⟩ := parts_none HTe.out
      have HM := hid (fun (h : ∀ n ∈ varsL t, ∀ b ∈ s, b.1 ≠ n) => parts_unmet HTe.out HBe.out h)
      by_cases hbig : 512 < t.length
      · rw [if_pos hbig] at hn1 hn2
        rw [hn2] at HN5
        rw [hn1]
        have HN1 := hid hn1
        have HN2 := hid hn2
        clear hn1 hn2
        go_wp2_with fail
        refine (vars_any _ t w5 (HI.out.kp (Kp.of_below HB5.out)) ht).mono ?_
        rintro e w7 ⟨x7, rfl, ho7, hb7⟩
        have HB7 := hid (below_step HB5.out hb7)
        have HA7 := hid (HA5.out.kp (Kp.of_below hb7))
        have HN7 := hid (HN5.out.kp (Kp.of_below hb7))
        have HV7 := hid ho7.is
        obtain ⟨vo, vc, rfl, hvc1, hvc2⟩ := ho7.shape
        unfold maxLen at hvc2
        have HBs7 := hid (HBs.out.kp (Kp.of_below HB7.out))
        clear ho7 hb7
        go_wp2
        go_loopw [12, 14] (fun mv iv wr => ∃ (M : Bool) (i : Nat), i ≤ (varsL t).length ∧ iv = .int .i64 i ∧ mv = .bool M ∧ (M = false → ∀ n ∈ (varsL t).take i, ∀ b ∈ s, b.1 ≠ n) ∧ ∃ n, wr = w7.drewN n) (fun _ iv _ => (varsL t).length - (intOf iv).toNat)
        case atStart => exact ⟨false, 0, Nat.zero_le _, rfl, rfl, fun _ n hn => (by simp at hn), 0, rfl⟩
        case round =>
          obtain ⟨M, i, hi, rfl, rfl, hM, n0, rfl⟩ := hrel
          have HMM := hid hM
          clear hM
          by_cases hlt : i < (varsL t).length
          · obtain ⟨vg, vf, y, rfl, hy1, hy2, _⟩ := HV7.out.at hlt
            have HY := hid hy1
            clear hy1
            go_wp2
            go_loopw [12, 15] (fun mv kv wr => ∃ (M : Bool) (k : Nat), k ≤ s.length ∧ kv = .int .i64 k ∧ mv = .bool M ∧ (M = false → (∀ n ∈ (varsL t).take i, ∀ b ∈ s, b.1 ≠ n) ∧ ∀ b ∈ s.take k, b.1 ≠ y) ∧ ∃ n, wr = w7.drewN n) (fun _ kv _ => s.length - (intOf kv).toNat)
            case atStart => exact ⟨M, 0, Nat.zero_le _, rfl, rfl, fun h => ⟨HMM.out h, fun b hb => (by simp at hb)⟩, n0, rfl⟩
            case round =>
              obtain ⟨M2, k, hk, rfl, rfl, hM2, n2, rfl⟩ := hrel
              have HM2 := hid hM2
              clear hM2
              by_cases hkl : k < s.length
              · obtain ⟨bg, bf, x, xa, xt, xc2, rfl, hx1, hx2, _, _, _, _, _⟩ := HBs7.out.at hkl
                have HX := hid hx1
                clear hx1
                cases M2 with
                | true =>
                  go_wp2
                  go_quiet (fail)
                  go_wp2
                  go_roundw
                  case rel => exact ⟨true, k + 1, by omega, by go_num, rfl, fun h => (by cases h), _, rfl⟩
                  case measure => simp [intOf]; omega
                | false =>
                  obtain ⟨HP1, HP2⟩ := HM2.out rfl
                  have HQ1 := hid HP1
                  have HQ2 := hid HP2
                  clear HP1 HP2
                  by_cases hxy : x = y
                  · have hxb : (x == y) = true := by simpa using hxy
                    go_wp2
                    go_quiet (fail)
                    go_wp2
                    go_roundw
                    case rel => exact ⟨true, k + 1, by omega, by go_num, rfl, fun h => (by cases h), _, rfl⟩
                    case measure => simp [intOf]; omega
                  · have hxb : (x == y) = false := by simpa using hxy
                    go_wp2
                    go_quiet (fail)
                    go_wp2
                    go_roundw
                    case rel =>
                      refine ⟨false, k + 1, by omega, by go_num, rfl, fun _ => ⟨HQ1.out, fun b hb => ?_⟩, _, rfl⟩
                      rw [take_get HX.out] at hb
                      rcases List.mem_append.1 hb with hb | hb
                      · exact HQ2.out b hb
                      · rw [List.mem_singleton.1 hb]; exact hxy
                    case measure => simp [intOf]; omega
              · have hke : k = s.length := by omega
                subst hke
                go_wp2
                go_roundw
                case rel =>
                  refine ⟨M2, i + 1, by omega, by go_num, rfl, fun h n hn => ?_, n2, rfl⟩
                  obtain ⟨k1, k2⟩ := HM2.out h
                  rw [take_get HY.out] at hn
                  rcases List.mem_append.1 hn with hn | hn
                  · exact k1 n hn
                  · rw [List.mem_singleton.1 hn]
                    rw [List.take_length] at k2
                    exact k2
                case measure => simp [intOf]; omega
          · have hie : i = (varsL t).length := by omega
            subst hie
            rw [List.take_length] at HMM
            have HA8 := hid (HA7.out.kp (Kp.of_below (drawn_below (n := n0) rfl)))
            have HN8 := hid (HN7.out.kp (Kp.of_below (drawn_below (n := n0) rfl)))
            have HB8 := hid (below_step HB7.out (drawn_below (n := n0) rfl))
            cases M with
            | true =>
              obtain ⟨w9, hw9⟩ : ∃ x, x = w7.drewN n0 := ⟨_, rfl⟩
              rw [← hw9] at HA8 HN8 HB8 ⊢
              clear hw9
              have HB9 := HB8
              have HA9 := HA8
              obtain ⟨tg, tf, c, rfl, hc1, hc2, _⟩ := (HI.out.kp (Kp.of_below HB9.out)).at (k := 0) (right_pos (term_parts HTe.out).2)
              rw [Nat.add_zero] at hc2
              have hpos := right_pos (term_parts HTe.out).2
              have HC1 := hid hc1
              clear hc1
              by_cases hc0 : c < 0
              · go_wp2
                go_ret
                exact ⟨rfl, HB9.out⟩
              · by_cases he0 : applyE sig s t = 0
                · exact absurd (apply_small he0) (by omega)
                · have heb : (applyE sig s t != 0) = true := by simpa using he0
                  generalize applyE sig s t = E at heb
                  clear he0
                  go_wp2
                  go_ret
                  exact ⟨rfl, HB9.out⟩
            | false =>
              obtain ⟨hm1, hm2⟩ := HM.out (HMM.out rfl)
              have hE := hm1.trans HN1.out
              have HL2 := hid (hm2.trans HN2.out)
              rw [hE]
              have HE := hid hE
              clear hm1 hm2 hE
              go_wp2_with fail
              refine (same_any a2 a3 _ _ _ HA8.out HN8.out).mono ?_
              rintro e w9 ⟨rfl, n9, hw9⟩
              rw [HL2.out, decide_eq_true rfl]
              have hb9 := drawn_below hw9
              have HB9 := hid (below_step HB8.out hb9)
              have HA9 := hid (HA8.out.kp (Kp.of_below hb9))
              clear hw9 hb9
              obtain ⟨tg, tf, c, rfl, hc1, hc2, _⟩ := (HI.out.kp (Kp.of_below HB9.out)).at (k := 0) (right_pos (term_parts HTe.out).2)
              rw [Nat.add_zero] at hc2
              have hpos := right_pos (term_parts HTe.out).2
              have HC1 := hid hc1
              clear hc1
              by_cases hc0 : c < 0
              · go_wp2
                go_ret
                exact ⟨rfl, HB9.out⟩
              · by_cases he0 : applyE sig s t = 0
                · exact absurd (apply_small he0) (by omega)
                · clear he0
                  go_wp2
                  go_ret
                  exact ⟨rfl, HB9.out⟩
      · rw [if_neg hbig] at hn1 hn2
        rw [hn2] at HN5
        rw [hn1]
        have HN1 := hid hn1
        have HN2 := hid hn2
        clear hn1 hn2
        go_wp2_with fail
        refine (same_any a3 _ t t w5 HN5.out (HI.out.kp (Kp.of_below HB5.out))).mono ?_
        rintro e w6 ⟨rfl, n6, hw6⟩
        rw [decide_eq_true rfl]
        have hb6 := drawn_below hw6
        have HB6 := hid (below_step HB5.out hb6)
        have HA6 := hid (HA5.out.kp (Kp.of_below hb6))
        have HN6 := hid (HN5.out.kp (Kp.of_below hb6))
        clear hw6 hb6 HA5 HN5
        go_wp2_with fail
        refine (vars_any _ t w6 (HI.out.kp (Kp.of_below HB6.out)) ht).mono ?_
        rintro e w7 ⟨x7, rfl, ho7, hb7⟩
        have HB7 := hid (below_step HB6.out hb7)
        have HA7 := hid (HA6.out.kp (Kp.of_below hb7))
        have HN7 := hid (HN6.out.kp (Kp.of_below hb7))
        have HV7 := hid ho7.is
        obtain ⟨vo, vc, rfl, hvc1, hvc2⟩ := ho7.shape
        unfold maxLen at hvc2
        have HBs7 := hid (HBs.out.kp (Kp.of_below HB7.out))
        clear ho7 hb7
        go_wp2
        go_loopw [12, 14] (fun mv iv wr => ∃ (M : Bool) (i : Nat), i ≤ (varsL t).length ∧ iv = .int .i64 i ∧ mv = .bool M ∧ (M = false → ∀ n ∈ (varsL t).take i, ∀ b ∈ s, b.1 ≠ n) ∧ ∃ n, wr = w7.drewN n) (fun _ iv _ => (varsL t).length - (intOf iv).toNat)
        case atStart => exact ⟨false, 0, Nat.zero_le _, rfl, rfl, fun _ n hn => (by simp at hn), 0, rfl⟩
        case round =>
          obtain ⟨M, i, hi, rfl, rfl, hM, n0, rfl⟩ := hrel
          have HMM := hid hM
          clear hM
          by_cases hlt : i < (varsL t).length
          · obtain ⟨vg, vf, y, rfl, hy1, hy2, _⟩ := HV7.out.at hlt
            have HY := hid hy1
            clear hy1
            go_wp2
            go_loopw [12, 15] (fun mv kv wr => ∃ (M : Bool) (k : Nat), k ≤ s.length ∧ kv = .int .i64 k ∧ mv = .bool M ∧ (M = false → (∀ n ∈ (varsL t).take i, ∀ b ∈ s, b.1 ≠ n) ∧ ∀ b ∈ s.take k, b.1 ≠ y) ∧ ∃ n, wr = w7.drewN n) (fun _ kv _ => s.length - (intOf kv).toNat)
            case atStart => exact ⟨M, 0, Nat.zero_le _, rfl, rfl, fun h => ⟨HMM.out h, fun b hb => (by simp at hb)⟩, n0, rfl⟩
            case round =>
              obtain ⟨M2, k, hk, rfl, rfl, hM2, n2, rfl⟩ := hrel
              have HM2 := hid hM2
              clear hM2
              by_cases hkl : k < s.length
              · obtain ⟨bg, bf, x, xa, xt, xc2, rfl, hx1, hx2, _, _, _, _, _⟩ := HBs7.out.at hkl
                have HX := hid hx1
                clear hx1
                cases M2 with
                | true =>
                  go_wp2
                  go_quiet (fail)
                  go_wp2
                  go_roundw
                  case rel => exact ⟨true, k + 1, by omega, by go_num, rfl, fun h => (by cases h), _, rfl⟩
                  case measure => simp [intOf]; omega
                | false =>
                  obtain ⟨HP1, HP2⟩ := HM2.out rfl
                  have HQ1 := hid HP1
                  have HQ2 := hid HP2
                  clear HP1 HP2
                  by_cases hxy : x = y
                  · have hxb : (x == y) = true := by simpa using hxy
                    go_wp2
                    go_quiet (fail)
                    go_wp2
                    go_roundw
                    case rel => exact ⟨true, k + 1, by omega, by go_num, rfl, fun h => (by cases h), _, rfl⟩
                    case measure => simp [intOf]; omega
                  · have hxb : (x == y) = false := by simpa using hxy
                    go_wp2
                    go_quiet (fail)
                    go_wp2
                    go_roundw
                    case rel =>
                      refine ⟨false, k + 1, by omega, by go_num, rfl, fun _ => ⟨HQ1.out, fun b hb => ?_⟩, _, rfl⟩
                      rw [take_get HX.out] at hb
                      rcases List.mem_append.1 hb with hb | hb
                      · exact HQ2.out b hb
                      · rw [List.mem_singleton.1 hb]; exact hxy
                    case measure => simp [intOf]; omega
              · have hke : k = s.length := by omega
                subst hke
                go_wp2
                go_roundw
                case rel =>
                  refine ⟨M2, i + 1, by omega, by go_num, rfl, fun h n hn => ?_, n2, rfl⟩
                  obtain ⟨k1, k2⟩ := HM2.out h
                  rw [take_get HY.out] at hn
                  rcases List.mem_append.1 hn with hn | hn
                  · exact k1 n hn
                  · rw [List.mem_singleton.1 hn]
                    rw [List.take_length] at k2
                    exact k2
                case measure => simp [intOf]; omega
          · have hie : i = (varsL t).length := by omega
            subst hie
            rw [List.take_length] at HMM
            have HA8 := hid (HA7.out.kp (Kp.of_below (drawn_below (n := n0) rfl)))
            have HN8 := hid (HN7.out.kp (Kp.of_below (drawn_below (n := n0) rfl)))
            have HB8 := hid (below_step HB7.out (drawn_below (n := n0) rfl))
            cases M with
            | true =>
              obtain ⟨w9, hw9⟩ : ∃ x, x = w7.drewN n0 := ⟨_, rfl⟩
              rw [← hw9] at HA8 HN8 HB8 ⊢
              clear hw9
              have HB9 := HB8
              have HA9 := HA8
              obtain ⟨tg, tf, c, rfl, hc1, hc2, _⟩ := (HI.out.kp (Kp.of_below HB9.out)).at (k := 0) (right_pos (term_parts HTe.out).2)
              rw [Nat.add_zero] at hc2
              have hpos := right_pos (term_parts HTe.out).2
              have HC1 := hid hc1
              clear hc1
              by_cases hc0 : c < 0
              · go_wp2
                go_ret
                exact ⟨rfl, HB9.out⟩
              · by_cases he0 : applyE sig s t = 0
                · have HE0 := hid he0
                  try rw [he0]
                  clear he0
                  obtain ⟨r, hr⟩ : ∃ r, t = c :: r := by
                    have h1 := HC1.out
                    cases t with
                    | nil => simp at h1
                    | cons x r => simp at h1; exact ⟨r, by rw [h1]⟩
                  have hrk := root_kids (sig := sig) (c := c) (r := r) (by rw [← hr]; exact HTe.out) hc0
                  rw [← hr] at hrk
                  obtain ⟨hp0, us, hus, hur, hkl⟩ := hrk
                  have HTc : Hid (t = [c] ++ us.flatten) := by show _ = _; rw [hr, hus]; rfl
                  have HUr := hid hur
                  have HKl := hid hkl
                  have hsm := apply_small HE0.out
                  have hcz := (HI.out.range 0 c HC1.out)
                  have HB10 := hid (b1 (o := .cells #[.int .i64 c] 3) HB9.out)
                  have HKd := hid (kids_any sv _ sig t 0 _ (HS.out.kp (Kp.of_below HB10.out)) (HI.out.kp (Kp.of_below HB10.out)) (HT.out.below HB10.out) (by omega) (by omega) (by omega))
                  rw [hp0, hkl] at HKd
                  clear hp0 hus hur hkl hr
                  go_wp2_with fail
                  refine HKd.out.mono ?_
                  rintro e w11 ⟨kv, rfl, hok, hbk⟩
                  have hpl : (places 1 (us.map List.length)).length = us.length := by rw [places_len, List.length_map]
                  obtain ⟨ko, kc, rfl, hkc1, hkc2⟩ := hok.shape
                  rw [hpl] at hkc1 hok ⊢
                  unfold maxLen at hkc2
                  have HOk := hid (hok.mono (below_alloc _).size)
                  have HOr : Hid (OwI w11 w9.heap.size (.slice (some ⟨w9.heap.size, 0, none⟩) 1 1) ([c] ++ laidL (bnd s) (us.take 0).flatten)) := by
                    refine OwI.later (w := w9.alloc (.cells #[.int .i64 c] 3)) ⟨fun k x hk => ?_, rfl, .inr ⟨w9.heap.size, 1, #[.int .i64 c], rfl, Nat.le_refl _, heap_alloc_new _ _, Nat.le_refl _, by simp [maxLen], rfl, rfl⟩⟩ hbk
                    have hk0 : k = 0 := by
                      have := (List.getElem?_eq_some_iff.1 hk).1
                      simp [laidL] at this
                      exact this
                    subst hk0
                    simp at hk
                    subst hk
                    exact hcz
                  have HD0 : Hid ((Value.slice ko us.length kc).ownBlock = none ∨ (Value.slice ko us.length kc).ownBlock ≠ (Value.slice (some ⟨w9.heap.size, 0, none⟩) 1 1).ownBlock) := by
                    refine .inr fun h => ?_
                    have := own_blk hok.2 (j := w9.heap.size) h
                    simp at this
                    omega
                  have HB11 := hid (below_step (below_alloc (.cells #[.int .i64 c] 3)) hbk)
                  clear hok hbk hpl HKd
                  go_wp2
                  go_loopw [16, 19] (fun x iv wr => ∃ i : Nat, i ≤ us.length ∧ iv = .int .i64 i ∧ OwI wr w9.heap.size x ([c] ++ laidL (bnd s) (us.take i).flatten) ∧ OwI wr w9.heap.size (.slice ko us.length kc) (places 1 (us.map List.length)) ∧ ((Value.slice ko us.length kc).ownBlock = none ∨ (Value.slice ko us.length kc).ownBlock ≠ x.ownBlock) ∧ Below w9.heap.size w9 wr) (fun _ iv _ => us.length - (intOf iv).toNat)
                  case atStart => exact ⟨0, Nat.zero_le _, rfl, HOr.out, HOk.out, HD0.out, HB11.out⟩
                  case round =>
                    obtain ⟨i, hi, rfl, h1, h2, h3, h4⟩ := hrel
                    have HO1 := hid h1
                    have HO2 := hid h2
                    have HO3 := hid h3
                    have HO4 := hid h4
                    have HW4 := hid (below_step HB9.out h4)
                    clear h1 h2 h3 h4 HOr HOk HD0 HB11
                    by_cases hlt : i < us.length
                    · obtain ⟨u, hui⟩ : ∃ u, us[i]? = some u := ⟨_, List.getElem?_eq_getElem hlt⟩
                      have hu := HUr.out u (List.mem_of_getElem? hui)
                      have hsp : t = ([c] ++ (us.take i).flatten) ++ (u ++ (us.drop (i + 1)).flatten) := by
                        have e1 : us = us.take i ++ (u :: us.drop (i + 1)) := by
                          rw [← drop_get hui, List.take_append_drop]
                        have e2 : us.flatten = (us.take i).flatten ++ (u ++ (us.drop (i + 1)).flatten) := by
                          rw [← List.flatten_cons, ← List.flatten_append, ← e1]
                        rw [HTc.out, e2, List.append_assoc]
                      obtain ⟨hs1, hs2⟩ := sub_at HTe.out hu hsp
                      obtain ⟨ha1, ha2, ha3⟩ := apply_part HE0.out hu hsp
                      obtain ⟨kg, kf, y, rfl, hy1, hy2, hy3, hy4⟩ := HO2.out.is.at (k := i) (by rw [places_len, List.length_map]; exact hlt)
                      rw [places_at us 1 i hlt] at hy1
                      have hyp : y = ((([c] ++ (us.take i).flatten).length : Nat) : Int) := by
                        simp only [Option.some.injEq] at hy1
                        rw [← hy1, List.length_append]
                        simp
                      have hul : u.length ≤ 512 := by
                        have := congrArg List.length hsp
                        simp only [List.length_append] at this
                        omega
                      have HSb := hid (sub_any sv _ sig t y wr (HS.out.kp (Kp.of_below HW4.out)) (HI.out.kp (Kp.of_below HW4.out)) (HT.out.below HW4.out) ht hy3 hy4)
                      rw [hyp, hs1, hs2, ← hyp] at HSb
                      have HNx : Hid ([c] ++ laidL (bnd s) (us.take (i + 1)).flatten = ([c] ++ laidL (bnd s) (us.take i).flatten) ++ laidL (bnd s) u) := by
                        show _ = _
                        rw [take_get hui, List.flatten_append, laid_app]
                        simp
                      have hln : (([c] ++ laidL (bnd s) (us.take i).flatten).length + (laidL (bnd s) u).length) * 8 ≤ 140737488355328 := by
                        rw [laid_app, List.length_append] at ha3
                        rw [List.length_append]
                        simp only [List.length_singleton]
                        omega
                      have HA1 := hid ha1
                      have HA2' := hid ha2
                      have HLn := hid hln
                      clear hy1 hyp hsp hs1 hs2 ha1 ha2 ha3 hln hu hui
                      go_wp2_with fail
                      refine HSb.out.mono ?_
                      rintro e w12 ⟨xv, rfl, hox, hbx⟩
                      have HW12 := hid (below_step HW4.out hbx)
                      have HAp := hid (apply_any sv _ xv sig s u w12 (HS.out.kp (Kp.of_below HW12.out)) (HBs.out.kp (Kp.of_below HW12.out)) hox.is (HT.out.below HW12.out) (by omega))
                      rw [HA1.out, HA2'.out] at HAp
                      have HBx := hid hbx
                      clear hox hbx HSb
                      go_wp2_with fail
                      refine HAp.out.mono ?_
                      rintro e w13 ⟨yv, rfl, hoy, hby⟩
                      have hbb := below_step HBx.out hby
                      obtain ⟨v', w14, hr14, ho14, hg14, hd14⟩ := join_ints2 30 (HO1.out.later hbb) hoy.is (Nat.le_trans HO4.out.size hbb.size) HLn.out
                      have HR14 := hid hr14
                      have HN1' := hid (HNx.out ▸ ho14)
                      have HN2' := hid ((HO2.out.later hbb).kept hg14 HO3.out)
                      have HN3' : Hid ((Value.slice (some ⟨kg, kf, none⟩) us.length kc).ownBlock = none ∨ (Value.slice (some ⟨kg, kf, none⟩) us.length kc).ownBlock ≠ v'.ownBlock) := by
                        rcases hd14 with h | h
                        · rw [h]; exact HO3.out
                        · refine .inr fun h9 => ?_
                          rw [h] at h9
                          have := own_blk_lt (HO2.out.later hbb).2 h9
                          omega
                      have HN4' := hid ((below_step HO4.out hbb).grown hg14 (Nat.le_trans HO4.out.size hbb.size) (fun j hj => own_blk HO1.out.2 hj))
                      clear hoy hby hbb hr14 ho14 hg14 hd14 HAp HBx HLn HNx
                      go_wp2_with (first
                        | (at_builtin; refine wpList_append_run rfl _ _ _ rfl _ _ rfl rfl HR14.out ?_))
                      go_roundw
                      case rel => exact ⟨i + 1, by omega, by go_num, HN1'.out, HN2'.out, HN3'.out, HN4'.out⟩
                      case measure => simp [intOf]; omega
                    · have hie : i = us.length := by omega
                      subst hie
                      rw [List.take_length] at HO1
                      have hfin : [c] ++ laidL (bnd s) us.flatten = applyL sig s t := by
                        rw [(apply_ok HE0.out).2.2.2, HTc.out, laid_app]
                        have : laidL (bnd s) [c] = [c] := by
                          unfold laidL
                          rw [List.flatMap_cons, List.flatMap_nil, List.append_nil]
                          unfold piece
                          rw [if_neg (by omega)]
                        rw [this]
                      rw [hfin] at HO1
                      clear hfin
                      go_wp2_with fail
                      refine (same_any _ a2 _ _ _ HO1.out.is (HA9.out.kp (Kp.of_below HO4.out))).mono ?_
                      rintro e w15 ⟨rfl, n15, hw15⟩
                      rw [decide_eq_true rfl]
                      have HB15 := hid (below_step HW4.out (drawn_below hw15))
                      clear hw15
                      go_wp2
                      go_ret
                      exact ⟨rfl, HB15.out⟩
                · have heb : (applyE sig s t != 0) = true := by simpa using he0
                  generalize applyE sig s t = E at heb
                  clear he0
                  go_wp2
                  go_ret
                  exact ⟨rfl, HB9.out⟩
            | false =>
              obtain ⟨hm1, hm2⟩ := HM.out (HMM.out rfl)
              have hE := hm1.trans HN1.out
              have HL2 := hid (hm2.trans HN2.out)
              rw [hE]
              have HE := hid hE
              clear hm1 hm2 hE
              go_wp2_with fail
              refine (same_any a2 a3 _ _ _ HA8.out HN8.out).mono ?_
              rintro e w9 ⟨rfl, n9, hw9⟩
              rw [HL2.out, decide_eq_true rfl]
              have hb9 := drawn_below hw9
              have HB9 := hid (below_step HB8.out hb9)
              have HA9 := hid (HA8.out.kp (Kp.of_below hb9))
              clear hw9 hb9
              obtain ⟨tg, tf, c, rfl, hc1, hc2, _⟩ := (HI.out.kp (Kp.of_below HB9.out)).at (k := 0) (right_pos (term_parts HTe.out).2)
              rw [Nat.add_zero] at hc2
              have hpos := right_pos (term_parts HTe.out).2
              have HC1 := hid hc1
              clear hc1
              by_cases hc0 : c < 0
              · go_wp2
                go_ret
                exact ⟨rfl, HB9.out⟩
              · by_cases he0 : applyE sig s t = 0
                · have HE0 := hid he0
                  try rw [he0]
                  clear he0
                  obtain ⟨r, hr⟩ : ∃ r, t = c :: r := by
                    have h1 := HC1.out
                    cases t with
                    | nil => simp at h1
                    | cons x r => simp at h1; exact ⟨r, by rw [h1]⟩
                  have hrk := root_kids (sig := sig) (c := c) (r := r) (by rw [← hr]; exact HTe.out) hc0
                  rw [← hr] at hrk
                  obtain ⟨hp0, us, hus, hur, hkl⟩ := hrk
                  have HTc : Hid (t = [c] ++ us.flatten) := by show _ = _; rw [hr, hus]; rfl
                  have HUr := hid hur
                  have HKl := hid hkl
                  have hsm := apply_small HE0.out
                  have hcz := (HI.out.range 0 c HC1.out)
                  have HB10 := hid (b1 (o := .cells #[.int .i64 c] 3) HB9.out)
                  have HKd := hid (kids_any sv _ sig t 0 _ (HS.out.kp (Kp.of_below HB10.out)) (HI.out.kp (Kp.of_below HB10.out)) (HT.out.below HB10.out) (by omega) (by omega) (by omega))
                  rw [hp0, hkl] at HKd
                  clear hp0 hus hur hkl hr
                  go_wp2_with fail
                  refine HKd.out.mono ?_
                  rintro e w11 ⟨kv, rfl, hok, hbk⟩
                  have hpl : (places 1 (us.map List.length)).length = us.length := by rw [places_len, List.length_map]
                  obtain ⟨ko, kc, rfl, hkc1, hkc2⟩ := hok.shape
                  rw [hpl] at hkc1 hok ⊢
                  unfold maxLen at hkc2
                  have HOk := hid (hok.mono (below_alloc _).size)
                  have HOr : Hid (OwI w11 w9.heap.size (.slice (some ⟨w9.heap.size, 0, none⟩) 1 1) ([c] ++ laidL (bnd s) (us.take 0).flatten)) := by
                    refine OwI.later (w := w9.alloc (.cells #[.int .i64 c] 3)) ⟨fun k x hk => ?_, rfl, .inr ⟨w9.heap.size, 1, #[.int .i64 c], rfl, Nat.le_refl _, heap_alloc_new _ _, Nat.le_refl _, by simp [maxLen], rfl, rfl⟩⟩ hbk
                    have hk0 : k = 0 := by
                      have := (List.getElem?_eq_some_iff.1 hk).1
                      simp [laidL] at this
                      exact this
                    subst hk0
                    simp at hk
                    subst hk
                    exact hcz
                  have HD0 : Hid ((Value.slice ko us.length kc).ownBlock = none ∨ (Value.slice ko us.length kc).ownBlock ≠ (Value.slice (some ⟨w9.heap.size, 0, none⟩) 1 1).ownBlock) := by
                    refine .inr fun h => ?_
                    have := own_blk hok.2 (j := w9.heap.size) h
                    simp at this
                    omega
                  have HB11 := hid (below_step (below_alloc (.cells #[.int .i64 c] 3)) hbk)
                  clear hok hbk hpl HKd
                  go_wp2
                  go_loopw [16, 19] (fun x iv wr => ∃ i : Nat, i ≤ us.length ∧ iv = .int .i64 i ∧ OwI wr w9.heap.size x ([c] ++ laidL (bnd s) (us.take i).flatten) ∧ OwI wr w9.heap.size (.slice ko us.length kc) (places 1 (us.map List.length)) ∧ ((Value.slice ko us.length kc).ownBlock = none ∨ (Value.slice ko us.length kc).ownBlock ≠ x.ownBlock) ∧ Below w9.heap.size w9 wr) (fun _ iv _ => us.length - (intOf iv).toNat)
                  case atStart => exact ⟨0, Nat.zero_le _, rfl, HOr.out, HOk.out, HD0.out, HB11.out⟩
                  case round =>
                    obtain ⟨i, hi, rfl, h1, h2, h3, h4⟩ := hrel
                    have HO1 := hid h1
                    have HO2 := hid h2
                    have HO3 := hid h3
                    have HO4 := hid h4
                    have HW4 := hid (below_step HB9.out h4)
                    clear h1 h2 h3 h4 HOr HOk HD0 HB11
                    by_cases hlt : i < us.length
                    · obtain ⟨u, hui⟩ : ∃ u, us[i]? = some u := ⟨_, List.getElem?_eq_getElem hlt⟩
                      have hu := HUr.out u (List.mem_of_getElem? hui)
                      have hsp : t = ([c] ++ (us.take i).flatten) ++ (u ++ (us.drop (i + 1)).flatten) := by
                        have e1 : us = us.take i ++ (u :: us.drop (i + 1)) := by
                          rw [← drop_get hui, List.take_append_drop]
                        have e2 : us.flatten = (us.take i).flatten ++ (u ++ (us.drop (i + 1)).flatten) := by
                          rw [← List.flatten_cons, ← List.flatten_append, ← e1]
                        rw [HTc.out, e2, List.append_assoc]
                      obtain ⟨hs1, hs2⟩ := sub_at HTe.out hu hsp
                      obtain ⟨ha1, ha2, ha3⟩ := apply_part HE0.out hu hsp
                      obtain ⟨kg, kf, y, rfl, hy1, hy2, hy3, hy4⟩ := HO2.out.is.at (k := i) (by rw [places_len, List.length_map]; exact hlt)
                      rw [places_at us 1 i hlt] at hy1
                      have hyp : y = ((([c] ++ (us.take i).flatten).length : Nat) : Int) := by
                        simp only [Option.some.injEq] at hy1
                        rw [← hy1, List.length_append]
                        simp
                      have hul : u.length ≤ 512 := by
                        have := congrArg List.length hsp
                        simp only [List.length_append] at this
                        omega
                      have HSb := hid (sub_any sv _ sig t y wr (HS.out.kp (Kp.of_below HW4.out)) (HI.out.kp (Kp.of_below HW4.out)) (HT.out.below HW4.out) ht hy3 hy4)
                      rw [hyp, hs1, hs2, ← hyp] at HSb
                      have HNx : Hid ([c] ++ laidL (bnd s) (us.take (i + 1)).flatten = ([c] ++ laidL (bnd s) (us.take i).flatten) ++ laidL (bnd s) u) := by
                        show _ = _
                        rw [take_get hui, List.flatten_append, laid_app]
                        simp
                      have hln : (([c] ++ laidL (bnd s) (us.take i).flatten).length + (laidL (bnd s) u).length) * 8 ≤ 140737488355328 := by
                        rw [laid_app, List.length_append] at ha3
                        rw [List.length_append]
                        simp only [List.length_singleton]
                        omega
                      have HA1 := hid ha1
                      have HA2' := hid ha2
                      have HLn := hid hln
                      clear hy1 hyp hsp hs1 hs2 ha1 ha2 ha3 hln hu hui
                      go_wp2_with fail
                      refine HSb.out.mono ?_
                      rintro e w12 ⟨xv, rfl, hox, hbx⟩
                      have HW12 := hid (below_step HW4.out hbx)
                      have HAp := hid (apply_any sv _ xv sig s u w12 (HS.out.kp (Kp.of_below HW12.out)) (HBs.out.kp (Kp.of_below HW12.out)) hox.is (HT.out.below HW12.out) (by omega))
                      rw [HA1.out, HA2'.out] at HAp
                      have HBx := hid hbx
                      clear hox hbx HSb
                      go_wp2_with fail
                      refine HAp.out.mono ?_
                      rintro e w13 ⟨yv, rfl, hoy, hby⟩
                      have hbb := below_step HBx.out hby
                      obtain ⟨v', w14, hr14, ho14, hg14, hd14⟩ := join_ints2 30 (HO1.out.later hbb) hoy.is (Nat.le_trans HO4.out.size hbb.size) HLn.out
                      have HR14 := hid hr14
                      have HN1' := hid (HNx.out ▸ ho14)
                      have HN2' := hid ((HO2.out.later hbb).kept hg14 HO3.out)
                      have HN3' : Hid ((Value.slice (some ⟨kg, kf, none⟩) us.length kc).ownBlock = none ∨ (Value.slice (some ⟨kg, kf, none⟩) us.length kc).ownBlock ≠ v'.ownBlock) := by
                        rcases hd14 with h | h
                        · rw [h]; exact HO3.out
                        · refine .inr fun h9 => ?_
                          rw [h] at h9
                          have := own_blk_lt (HO2.out.later hbb).2 h9
                          omega
                      have HN4' := hid ((below_step HO4.out hbb).grown hg14 (Nat.le_trans HO4.out.size hbb.size) (fun j hj => own_blk HO1.out.2 hj))
                      clear hoy hby hbb hr14 ho14 hg14 hd14 HAp HBx HLn HNx
                      go_wp2_with (first
                        | (at_builtin; refine wpList_append_run rfl _ _ _ rfl _ _ rfl rfl HR14.out ?_))
                      go_roundw
                      case rel => exact ⟨i + 1, by omega, by go_num, HN1'.out, HN2'.out, HN3'.out, HN4'.out⟩
                      case measure => simp [intOf]; omega
                    · have hie : i = us.length := by omega
                      subst hie
                      rw [List.take_length] at HO1
                      have hfin : [c] ++ laidL (bnd s) us.flatten = applyL sig s t := by
                        rw [(apply_ok HE0.out).2.2.2, HTc.out, laid_app]
                        have : laidL (bnd s) [c] = [c] := by
                          unfold laidL
                          rw [List.flatMap_cons, List.flatMap_nil, List.append_nil]
                          unfold piece
                          rw [if_neg (by omega)]
                        rw [this]
                      rw [hfin] at HO1
                      clear hfin
                      go_wp2_with fail
                      refine (same_any _ a2 _ _ _ HO1.out.is (HA9.out.kp (Kp.of_below HO4.out))).mono ?_
                      rintro e w15 ⟨rfl, n15, hw15⟩
                      rw [decide_eq_true rfl]
                      have HB15 := hid (below_step HW4.out (drawn_below hw15))
                      clear hw15
                      go_wp2
                      go_ret
                      exact ⟨rfl, HB15.out⟩
                · exact absurd HE.out he0
    · obtain ⟨hE, hL⟩ := parts_bad (sig := sig) (t := t) (fun h => hbe h.2)
      obtain ⟨xo, xc, rfl, _, _⟩ := HA3.out.shape
      rw [hL, List.length_nil]
      have heb : (applyE sig s t != 0) = true := by simpa using hE
      have hfb : (bindE sig s != 0) = true := by simpa using hbe
      generalize applyE sig s t = E at heb
      generalize bindE sig s = F at hfb
      clear hE hL hbe
      go_wp2
      go_ret
      exact ⟨rfl, HB5.out⟩
  · obtain ⟨hE, hL⟩ := parts_bad (s := s) (fun h => hte h.1)
    obtain ⟨xo, xc, rfl, _, _⟩ := HA3.out.shape
    rw [hL, List.length_nil]
    have heb : (applyE sig s t != 0) = true := by simpa using hE
    have hfb : (termE sig t != 0) = true := by simpa using hte
    generalize applyE sig s t = E at heb
    generalize termE sig t = F at hfb
    clear hE hL hte
    go_wp2
    go_ret
    exact ⟨rfl, HB4.out⟩

end Go.Proofs.YtifpanfgojfbkaaDoor
