/- Texts of the proof, one behind the other. -/
import Derived.Test.YtgpbnbmjgcchfaaGreatDoorOwn14
import Derived.Test.YtgpbnbmjgcchfaaGreatDoorOwn12
import Derived.Test.YtgpbnbmjgcchfaaGreatDoorOwn4
import Derived.Test.YtgpbnbmjgcchfaaGreatDoorOwn7
import Derived.Ground.Names2Prog
import Derived.Shelf.Slices.CompactI
import Derived.Test.YtgpbnbmjgcchfaaGreatDoorOwn11
/- checkRule, Check and isRight of package system walked. -/
namespace Go.Proofs.YtgpbnbmjgcchfaaGreatDoor
open Go.RowKit Go.Maps Go.BigFrame

theorem row_posS {sig : List Sy} {u : List Int} (h : rowE sig u = 0) : 0 < u.length := by
  cases u with
  | nil => simp [rowE, firstT] at h
  | cons c u => simp

/-- A rule: its sides. -/
abbrev Rl := List Int × List Int

/-- What is wrong with a rule, of a signature that may be. -/
def ruleE (sig : List Sy) (r : Rl) : Int :=
  if termE sig r.1 = 0 then (if termE sig r.2 = 0 then (if 512 < r.1.length ∨ 512 < r.2.length then 2 else if (r.1[0]?).getD 0 < 0 then 71 else if freeB r.1 r.2 then 72 else 0) else termE sig r.2) else termE sig r.1

set_option maxRecDepth 100000 in
set_option maxHeartbeats 1600000 in
theorem checkRule_any (sv lv rv : Value) (sig : List Sy) (l r : List Int) (w : World) (hs : Sg w sv sig) (hl : Is w lv l) (hr : Is w rv r) (hT : Tabs w) (h1 : l.length * 8 ≤ 140737488351232) (h2 : r.length * 8 ≤ 140737488351232) :
    Calls Tryz.prog 81 #[sv, .agg #[lv, rv]] w fun e w' => e = .returned (.int .i64 (ruleE sig (l, r))) ∧ Below w.heap.size w w' := by
  obtain ⟨a1, c1, e1, _⟩ := hl.flatI
  subst e1
  obtain ⟨a2, c2, e2, _⟩ := hr.flatI
  subst e2
  have HS := hid hs
  have HL := hid hl
  have HR := hid hr
  have HT := hid hT
  clear hs hl hr hT
  obtain ⟨w0, hw0⟩ : ∃ X, X = w.alloc (.cells #[.slice a1 l.length c1, .slice a2 r.length c2] 64) := ⟨_, rfl⟩
  have C0 : Hid (Below w.heap.size w w0) := by rw [hw0]; exact below_alloc _
  have HC : Hid (∀ W, Below w0.heap.size w0 W → W.cell? ⟨w.heap.size, 0, none⟩ = some (.slice a1 l.length c1) ∧ W.cell? ⟨w.heap.size, 1, none⟩ = some (.slice a2 r.length c2)) := fun W hW => by
    have hk := Kp.of_below hW
    rw [hw0] at hk
    exact ⟨hk.cell _ _ (cell_new rfl), hk.cell _ _ (cell_new rfl)⟩
  obtain ⟨E, hE⟩ : ∃ E, E = ruleE sig (l, r) := ⟨_, rfl⟩
  have HE := hid hE
  rw [← hE]
  clear hE
  unfold ruleE at HE
  go_enter Tryz.func81, Tryz.ntmps81
  go_wp2_with fail
  rw [← hw0]
  clear hw0
  refine (check_any sv _ sig l w0 (HS.out.kp (Kp.of_below C0.out)) (HL.out.kp (Kp.of_below C0.out)) (HT.out.below C0.out) h1).mono ?_
  rintro e w1 ⟨rfl, hb1⟩
  have C1 := hid (below_step C0.out hb1)
  have D1 := hid hb1
  clear hb1
  by_cases hel : termE sig l = 0
  · rw [hel]
    have HEl := hid hel
    rw [if_pos hel] at HE
    clear hel
    obtain ⟨x0, x1⟩ := HC.out w1 D1.out
    go_wp2_with fail
    refine (check_any sv _ sig r w1 (HS.out.kp (Kp.of_below C1.out)) (HR.out.kp (Kp.of_below C1.out)) (HT.out.below C1.out) h2).mono ?_
    rintro e w2 ⟨rfl, hb2⟩
    have C2 := hid (below_step C1.out hb2)
    have D2 := hid (below_step D1.out hb2)
    clear hb2 x0 x1
    by_cases her : termE sig r = 0
    · rw [her]
      rw [if_pos her] at HE
      clear her
      obtain ⟨x0, x1⟩ := HC.out w2 D2.out
      have hlp := row_posS (term_parts HEl.out).2
      obtain ⟨gl, ol, c, rfl, hc, hcx, _, _⟩ := (HL.out.kp (Kp.of_below C2.out)).at hlp
      rw [hc] at HE
      simp only [Option.getD_some] at HE
      rw [Nat.add_zero] at hcx
      by_cases hb1 : 512 < l.length
      · have hd1 : decide ((512 : Int) < (l.length : Int)) = true := by simpa using (show (512 : Int) < (l.length : Int) by omega)
        rw [if_pos (.inl hb1)] at HE
        go_wp2
        go_ret
        exact ⟨ret1i HE.out.symm, C2.out⟩
      · have hd1 : decide ((512 : Int) < (l.length : Int)) = false := by simpa using (show ¬ (512 : Int) < (l.length : Int) by omega)
        by_cases hb2 : 512 < r.length
        · have hd2 : decide ((512 : Int) < (r.length : Int)) = true := by simpa using (show (512 : Int) < (r.length : Int) by omega)
          rw [if_pos (.inr hb2)] at HE
          go_wp2
          go_ret
          exact ⟨ret1i HE.out.symm, C2.out⟩
        · have hd2 : decide ((512 : Int) < (r.length : Int)) = false := by simpa using (show ¬ (512 : Int) < (r.length : Int) by omega)
          rw [if_neg (by omega)] at HE
          by_cases h0 : c < 0
          · rw [if_pos h0] at HE
            have hd0 : decide (c < 0) = true := by simpa using h0
            clear hc
            go_wp2
            go_ret
            exact ⟨ret1i HE.out.symm, C2.out⟩
          · rw [if_neg h0] at HE
            have hd0 : decide (c < 0) = false := by simpa using h0
            clear hc
            go_wp2_with fail
            refine (hasFree_any _ _ l r w2 (HL.out.kp (Kp.of_below C2.out)) (HR.out.kp (Kp.of_below C2.out)) h1 h2).mono ?_
            rintro e w3 ⟨rfl, hb3⟩
            have C3 := hid (below_step C2.out hb3)
            clear hb3 x0 x1 hcx
            cases hf : freeB l r with
            | true =>
              rw [hf, if_pos rfl] at HE
              go_wp2
              go_ret
              exact ⟨ret1i HE.out.symm, C3.out⟩
            | false =>
              rw [hf, if_neg (by simp)] at HE
              go_wp2
              go_ret
              exact ⟨ret1i HE.out.symm, C3.out⟩
    · rw [if_neg her] at HE
      generalize termE sig r = T at her HE ⊢
      have hne : (T != 0) = true := by simpa using her
      go_wp2
      go_ret
      exact ⟨ret1i HE.out.symm, C2.out⟩
  · rw [if_neg hel] at HE
    generalize termE sig l = T at hel HE ⊢
    have hne : (T != 0) = true := by simpa using hel
    go_wp2
    go_ret
    exact ⟨ret1i HE.out.symm, C1.out⟩

/-- A rule at an address. -/
def EU (w : World) (g o : Nat) (r : Rl) : Prop := r.1.length * 8 ≤ 140737488351232 ∧ r.2.length * 8 ≤ 140737488351232 ∧ ∃ v1 v2, w.cell? ⟨g, o, none⟩ = some v1 ∧ w.cell? ⟨g, o + 1, none⟩ = some v2 ∧ Is w v1 r.1 ∧ Is w v2 r.2

theorem EU.kp {w w' : World} (hk : Kp w w') (g o : Nat) (r : Rl) (h : EU w g o r) : EU w' g o r := by
  obtain ⟨h1, h2, v1, v2, h3, h4, h5, h6⟩ := h
  exact ⟨h1, h2, v1, v2, hk.cell _ _ h3, hk.cell _ _ h4, h5.kp hk, h6.kp hk⟩

/-- A row of rules. -/
def RU (w : World) (v : Value) (rs : List Rl) : Prop := Row EU 2 w v rs

theorem RU.kp {w w' : World} {v : Value} {rs : List Rl} (h : RU w v rs) (hk : Kp w w') : RU w' v rs := Row.imp h hk.size (EU.kp hk)

theorem RU.at {w : World} {ao : Option Addr} {n cap : Nat} {rs : List Rl} (h : RU w (.slice ao n cap) rs) {k : Nat} (hk : k < rs.length) :
    ∃ g off l r a1 c1 a2 c2, ao = some ⟨g, off, none⟩ ∧ rs[k]? = some (l, r) ∧ w.cell? ⟨g, off + k * 2, none⟩ = some (.slice a1 l.length c1) ∧ w.cell? ⟨g, off + k * 2 + 1, none⟩ = some (.slice a2 r.length c2) ∧
      Is w (.slice a1 l.length c1) l ∧ Is w (.slice a2 r.length c2) r ∧ l.length * 8 ≤ 140737488351232 ∧ r.length * 8 ≤ 140737488351232 := by
  obtain ⟨ao', cap', hv, _, _, hx⟩ := Row.flat h
  simp only [Value.slice.injEq] at hv
  obtain ⟨rfl, rfl, rfl⟩ := hv
  obtain ⟨g, off, ⟨l, r⟩, rfl, hm, h1, h2, v1, v2, h3, h4, h5, h6⟩ := hx k hk
  obtain ⟨a1, c1, rfl, _⟩ := Row.flat h5
  obtain ⟨a2, c2, rfl, _⟩ := Row.flat h6
  exact ⟨g, off, l, r, a1, c1, a2, c2, rfl, hm, h3, h4, h5, h6, h1, h2⟩

/-- What is wrong with rules, and with which, from a place on. -/
def rulesGo (sig : List Sy) : Nat → List Rl → Int × Int
  | _, [] => (0, 0)
  | k, r :: rs => if ruleE sig r = 0 then rulesGo sig (k + 1) rs else (ruleE sig r, k)

/-- What is wrong with a system, and with which rule. -/
def sysE (sig : List Sy) (rs : List Rl) : Int × Int := if aheadE sig rs.length = 0 then rulesGo sig 0 rs else (aheadE sig rs.length, -1)

theorem ret2ii {a b c d : Int} (h : (a, c) = (b, d)) : Ending.returned (.tuple #[.int .i64 a, .int .i64 c]) = .returned (.tuple #[.int .i64 b, .int .i64 d]) := by cases h; rfl

set_option maxRecDepth 100000 in
set_option maxHeartbeats 1600000 in
theorem sysCheck_any (sv rv : Value) (sig : List Sy) (rs : List Rl) (w : World) (hs : Sg w sv sig) (hr : RU w rv rs) (hT : Tabs w) :
    Calls Tryz.prog 56 #[.agg #[sv, rv]] w fun e w' => e = .returned (.tuple #[.int .i64 (sysE sig rs).1, .int .i64 (sysE sig rs).2]) ∧ Below w.heap.size w w' := by
  obtain ⟨so, sc, rfl, hso, hsc, _⟩ := Row.flat hs
  obtain ⟨ro, rc, rfl, hro, hrc, _⟩ := Row.flat hr
  unfold maxLen at hsc hrc
  have HS := hid hs
  have HR := hid hr
  have HT := hid hT
  clear hs hr hT
  obtain ⟨w0, hw0⟩ : ∃ X, X = w.alloc (.cells #[.slice so sig.length sc, .slice ro rs.length rc] 25) := ⟨_, rfl⟩
  have C0 : Hid (Below w.heap.size w w0) := by rw [hw0]; exact below_alloc _
  have HC : Hid (∀ W, Below w0.heap.size w0 W → W.cell? ⟨w.heap.size, 0, none⟩ = some (.slice so sig.length sc) ∧ W.cell? ⟨w.heap.size, 1, none⟩ = some (.slice ro rs.length rc)) := fun W hW => by
    have hk := Kp.of_below hW
    rw [hw0] at hk
    exact ⟨hk.cell _ _ (cell_new rfl), hk.cell _ _ (cell_new rfl)⟩
  obtain ⟨E, hE⟩ : ∃ E, E = sysE sig rs := ⟨_, rfl⟩
  have HE := hid hE
  rw [← hE]
  clear hE
  unfold sysE at HE
  obtain ⟨x0, x1⟩ := HC.out w0 (Below.refl _ _)
  go_enter Tryz.func56, Tryz.ntmps56
  go_wp2_with fail
  rw [← hw0]
  clear hw0
  refine (checkAhead_any _ ro rs.length rc sig w0 (HS.out.kp (Kp.of_below C0.out)) (HT.out.below C0.out) (by omega)).mono ?_
  rintro e w1 ⟨rfl, hb1⟩
  have C1 := hid (below_step C0.out hb1)
  have D1 := hid hb1
  clear hb1 x0 x1
  by_cases hea : aheadE sig rs.length = 0
  · rw [hea]
    rw [if_pos hea] at HE
    clear hea
    obtain ⟨x0, x1⟩ := HC.out w1 D1.out
    go_wp2
    go_loopw [16] (fun iv wr => ∃ k : Nat, k ≤ rs.length ∧ iv = .int .i64 k ∧ rulesGo sig 0 rs = rulesGo sig k (rs.drop k) ∧ Below w0.heap.size w0 wr) (fun iv _ => rs.length - (intOf iv).toNat)
    case atStart => exact ⟨0, Nat.zero_le _, rfl, rfl, D1.out⟩
    case round =>
      obtain ⟨k, hk, rfl, hgo, hbl⟩ := hrel
      have HG := hid hgo
      have HB := hid hbl
      have CB := hid (below_step C0.out hbl)
      obtain ⟨z0, z1⟩ := HC.out wr hbl
      clear hgo hbl x0 x1
      by_cases hlt : k < rs.length
      · obtain ⟨g, off, l, r, a1, c1, a2, c2, rfl, hm, hc0, hc1, hi1, hi2, hl1, hl2⟩ := (HR.out.kp (Kp.of_below CB.out)).at hlt
        have HD : Hid (E = if ruleE sig (l, r) = 0 then rulesGo sig (k + 1) (rs.drop (k + 1)) else (ruleE sig (l, r), (k : Int))) := by
          show _ = _
          rw [HE.out, HG.out, drop_get hm]
          rfl
        have HI1 := hid hi1
        have HI2 := hid hi2
        have hgw : g < wr.heap.size := World.block_lt_of_cell? _ _ hc0
        have y0 := cell_old (o := .cells #[.slice a1 l.length c1, .slice a2 r.length c2] 64) z0
        obtain ⟨W, hW⟩ : ∃ X, X = wr.alloc (.cells #[.slice a1 l.length c1, .slice a2 r.length c2] 64) := ⟨_, rfl⟩
        have BW : Hid (Below wr.heap.size wr W) := by rw [hW]; exact below_alloc _
        clear hm hi1 hi2
        go_wp2_with fail
        rw [← hW]
        rw [← hW] at y0
        clear hW
        have CW := hid (below_step CB.out BW.out)
        refine (checkRule_any _ _ _ sig l r W (HS.out.kp (Kp.of_below CW.out)) (HI1.out.kp (Kp.of_below BW.out)) (HI2.out.kp (Kp.of_below BW.out)) (HT.out.below CW.out) hl1 hl2).mono ?_
        rintro e w3 ⟨rfl, hb3⟩
        have HB3 := hid (below_step HB.out (below_step BW.out hb3))
        clear hb3 y0 z0 z1 hc0 hc1
        by_cases her : ruleE sig (l, r) = 0
        · rw [her]
          have HN : Hid (rulesGo sig 0 rs = rulesGo sig (k + 1) (rs.drop (k + 1))) := by
            show _ = _
            rw [← HE.out, HD.out, if_pos her]
          clear her HD
          go_wp2
          go_roundw
          case rel => exact ⟨k + 1, hlt, by go_num, HN.out, HB3.out⟩
          case measure => simp only [intOf]; omega
        · have HN : Hid (E = (ruleE sig (l, r), (k : Int))) := by
            show _ = _
            rw [HD.out, if_neg her]
          generalize ruleE sig (l, r) = T at her HN ⊢
          have hne : (T != 0) = true := by simpa using her
          clear HD her
          go_wp2
          go_ret2
          exact ⟨ret2ii (a := T) (c := (k : Int)) (by rw [HN.out]), below_step C0.out HB3.out⟩
      · have HN : Hid (E = (0, 0)) := by
          show _ = _
          rw [HE.out, HG.out, List.drop_of_length_le (by omega)]
          rfl
        clear z0 z1
        go_wp2
        go_ret2
        exact ⟨ret2ii (a := 0) (c := 0) (by rw [HN.out]), CB.out⟩
  · rw [if_neg hea] at HE
    generalize aheadE sig rs.length = T at hea HE ⊢
    have hne : (T != 0) = true := by simpa using hea
    go_wp2
    go_ret2
    exact ⟨ret2ii (a := T) (c := -1) (by rw [HE.out]), C1.out⟩

/-- Whether a system is right. -/
def sysB (sig : List Sy) (rs : List Rl) : Bool := decide ((sysE sig rs).1 = 0)

end Go.Proofs.YtgpbnbmjgcchfaaGreatDoor

/- What the law file's helpers do: same, lent, kept, spoil, three, which. -/
namespace Go.Proofs.YtgpbnbmjgcchfaaGreatDoor
open Go.RowKit Go.Maps Go.BigFrame

theorem join_two (ty : TypeId) {w : World} {base : Nat} {x u : Value} {xs es : List Int} (ho : OwI w base x xs) (hs : Is w u es) (hb : base ≤ w.heap.size) (hl : (xs.length + es.length) * 8 ≤ 140737488355328) :
    ∃ v' w', (Builtin.append_ #[26, 26] ty #[x, u]).run Tryz.prog w = .ok v' w' ∧ OwI w' base v' (xs ++ es) ∧ w.grownBy w' x.ownBlock ∧ (v'.ownBlock = x.ownBlock ∨ v'.ownBlock = some w.heap.size) := by
  obtain ⟨i0, hi, hz0, hz1, hz2⟩ := info_parts info_int
  have hZ : ZI es := fun k x hk => by
    obtain ⟨ao, cap, rfl, _, _, hx⟩ := Row.flat hs
    obtain ⟨_, _, y, _, hy, h1, h2, _⟩ := hx k (List.getElem?_eq_some_iff.1 hk).1
    rw [hk] at hy
    cases hy
    exact ⟨h1, h2⟩
  have hZ2 : ZI (xs ++ es) := fun k y hk => by
    by_cases hkl : k < xs.length
    · rw [List.getElem?_append_left hkl] at hk
      exact ho.1 k y hk
    · rw [List.getElem?_append_right (by omega)] at hk
      exact hZ _ y hk
  obtain ⟨ao, cap, rfl, hc, hm, hx⟩ := hs
  by_cases h0 : es.length = 0
  · obtain rfl : es = [] := List.eq_nil_of_length_eq_zero h0
    obtain ⟨bo, bc, rfl, hbc, _⟩ := ho.shape
    refine ⟨_, w, run_append_nothing w 26 26 ty 3 i0 under_ints hi _ xs.length bc hbc _ ?_, by rw [List.append_nil]; exact ho, World.grownBy.refl _ _, .inl rfl⟩
    cases ao with
    | none => exact Src.ofNil w under_ints _
    | some a => exact Src.ofSlice w under_ints a 0 _ [] (by simp) (fun j u hj => (by simp at hj)) (fun u hu => (by simp at hu))
  · obtain ⟨g', off, rfl, hg, hcell⟩ := hx (by omega)
    obtain ⟨v', w', hr, h2, h3, _, h5⟩ := run_append_own_at (P := Tryz.prog) w base 26 ty 3 i0 _ 1 8 under_ints hi hz0 hz1 hz2 rfl (by decide) _ xs.length (xs.map I64) ho.2 ⟨g', off, none⟩ es.length cap (es.map I64) (by simp) (fun j u hj => by
      rw [List.getElem?_map] at hj
      cases hk : es[j]? with
      | none => rw [hk] at hj; simp at hj
      | some x =>
        rw [hk] at hj
        simp at hj
        subst hj
        rw [Addr.add_lit]
        have := (hcell j x hk).2.2
        rw [Nat.mul_one] at this
        exact this) (fun u hu => by obtain ⟨x, _, rfl⟩ := List.mem_map.1 hu; rfl) (by unfold maxLen; omega) (by omega) hb
    refine ⟨v', w', hr, ⟨hZ2, ?_⟩, h3, h5⟩
    rw [List.length_append, List.map_append]
    exact h2

theorem I64_one (xs : List Int) : ∀ u ∈ xs.map I64, u.oneCell' = true := fun u hu => by obtain ⟨x, _, rfl⟩ := List.mem_map.1 hu; rfl

theorem run_copy_ints {w : World} {base g n cap cap' : Nat} {ao : Option Addr} {zs xs : List Int} (ho : OwI w base (.slice (some ⟨g, 0, none⟩) n cap) zs) (hn : n = zs.length)
    (hs : Is w (.slice ao xs.length cap') xs) (hle : xs.length ≤ n) :
    ∃ w', (Builtin.copy_ #[26, 26] 3 #[.slice (some ⟨g, 0, none⟩) n cap, .slice ao xs.length cap']).run Tryz.prog w = .ok (goInt xs.length) w' ∧
      OwI w' base (.slice (some ⟨g, 0, none⟩) n cap) (xs ++ zs.drop xs.length) ∧ w.grownBy w' (some g) := by
  subst hn
  have hsz : (Tryz.prog.info? 3).map (·.size) = some 1 := by kernel_rfl
  by_cases h0 : xs.length = 0
  · obtain rfl : xs = [] := List.eq_nil_of_length_eq_zero h0
    have := run_copy_none (P := Tryz.prog) w 26 26 3 3 (some ⟨g, 0, none⟩) ao zs.length cap 0 cap' under_ints hsz (by simp)
    exact ⟨w, this, by simpa using ho, World.grownBy.refl _ _⟩
  · have hZ := hs.range
    obtain ⟨ao', c', hv, hc, hm, hx⟩ := hs
    simp only [Value.slice.injEq] at hv
    obtain ⟨rfl, _, rfl⟩ := hv
    obtain ⟨g', off, rfl, hg, hx⟩ := hx (by omega)
    rcases ho.2.2 with ⟨hv, _⟩ | ⟨g2, cap2, cur, hv, hb, hg2, hc2, hm2, hs2, ht2⟩
    · simp at hv
    · simp only [Value.slice.injEq, Option.some.injEq, Addr.mk.injEq, and_true, true_and] at hv
      obtain ⟨rfl, rfl⟩ := hv
      have hmin : xs.length = Nat.min xs.length zs.length := (Nat.min_eq_left hle).symm
      have hcur : zs.length ≤ cur.size := by omega
      have := run_copy_row (P := Tryz.prog) w 26 26 3 3 g 0 zs.length cap ⟨g', off, none⟩ xs.length cap' cur 3 (xs.map I64) under_ints hsz hg2
        (by simpa using hmin) (by
          intro j v hj
          simp only [List.getElem?_map, Option.map_eq_some_iff] at hj
          obtain ⟨x, hx1, rfl⟩ := hj
          rw [Addr.add_lit]
          have := (hx j x hx1).2.2
          rw [Nat.mul_one] at this
          exact this) (by simp; omega) (I64_one xs)
      refine ⟨_, by simpa using this, ⟨?_, ?_, .inr ⟨g, cap, _, by rw [List.length_append, List.length_drop, show xs.length + (zs.length - xs.length) = zs.length by omega], hb, setRow_heap w g cur _ 3 _ hg2, ?_, hm2, ?_, ?_⟩⟩, ?_⟩
      · intro k y hk
        by_cases hkl : k < xs.length
        · rw [List.getElem?_append_left hkl] at hk
          exact hZ k y hk
        · rw [List.getElem?_append_right (by omega), List.getElem?_drop] at hk
          exact ho.1 _ y hk
      · simp
      · simp; omega
      · simp; omega
      · have hl : (xs.map I64).length = xs.length := by simp
        rw [List.length_append, List.length_drop, show xs.length + (zs.length - xs.length) = zs.length by omega]
        simp only [List.map_append, List.map_drop, ← ht2, List.drop_take, Nat.mul_one]
        rw [List.take_append, hl, List.take_of_length_le (by simp; omega)]
      · exact ⟨rfl, rfl, rfl, by simp [World.setRow], fun k _ hk => setRow_other w g k _ (fun e => hk (by simp [e]))⟩

/-- A row and three marks behind it. -/
def marked (xs : List Int) : List Int := xs ++ [77, 77, 77]

theorem mark_step (xs R : List Int) (k : Nat) : (xs ++ List.replicate k 77) ++ 77 :: R = (xs ++ List.replicate (k + 1) 77) ++ R := by
  rw [List.replicate_succ']; simp

theorem get_midI {α : Type} {L : List α} {x : α} {R : List α} {k : Nat} (hk : L.length = k) : (L ++ x :: R)[k]? = some x := by subst hk; simp

theorem marked_lo {xs : List Int} {k : Nat} {x : Int} (h : xs[k]? = some x) : (marked xs)[k]? = some x := by
  have hk := (List.getElem?_eq_some_iff.1 h).1
  unfold marked
  rw [List.getElem?_append_left hk, h]

theorem marked_hi {xs : List Int} {k : Nat} (h1 : ¬ k < xs.length) (h2 : k < xs.length + 3) : (marked xs)[k]? = some 77 := by
  unfold marked
  rw [List.getElem?_append_right (by omega)]
  obtain ⟨j, rfl⟩ : ∃ j, k = xs.length + j := ⟨k - xs.length, by omega⟩
  rw [Nat.add_sub_cancel_left]
  match j, (by omega : j < 3) with
  | 0, _ => rfl
  | 1, _ => rfl
  | 2, _ => rfl

theorem cutI {w : World} {base g n cap : Nat} {xs ys : List Int} (h : OwI w base (.slice (some ⟨g, 0, none⟩) n cap) (xs ++ ys)) : Is w (.slice (some ⟨g, 0, none⟩) xs.length cap) xs := by
  obtain ⟨ao, cp, hv, hc, hm, hx⟩ := h.is
  simp only [Value.slice.injEq] at hv
  obtain ⟨rfl, _, rfl⟩ := hv
  rw [List.length_append] at hc
  refine ⟨_, cap, rfl, by omega, hm, fun h0 => ?_⟩
  obtain ⟨g', off, e, hg, hcell⟩ := hx (by rw [List.length_append]; omega)
  simp only [Option.some.injEq, Addr.mk.injEq, and_true] at e
  obtain ⟨rfl, rfl⟩ := e
  exact ⟨g, 0, rfl, hg, fun k x hk => hcell k x (by rw [List.getElem?_append_left (List.getElem?_eq_some_iff.1 hk).1]; exact hk)⟩

theorem grown_stepT {a b c : World} {r r' : Option Nat} (h : a.grownBy b r) (h' : b.grownBy c r') (hr : ∀ g, r' = some g → r = some g ∨ a.heap.size ≤ g) : a.grownBy c r :=
  ⟨h'.os.trans h.os, h'.tape.trans h.tape, h'.output.trans h.output, Nat.le_trans h.size h'.size, fun k hk hne => (h'.block k (Nat.lt_of_lt_of_le hk h.size) (fun e => by
    rcases hr k e.symm with h1 | h1
    · exact hne h1.symm
    · omega)).trans (h.block k hk hne)⟩

/-- Which of n places. -/
def whichN (c : Int) (n : Nat) : Nat := ((if c < 0 then -(c + 1) else c) % (n : Int)).toNat

theorem which_lt (c : Int) (n : Nat) (hn : 0 < n) : whichN c n < n := by
  unfold whichN
  have h1 := Int.emod_nonneg (if c < 0 then -(c + 1) else c) (b := (n : Int)) (by omega)
  have h2 := Int.emod_lt_of_pos (if c < 0 then -(c + 1) else c) (b := (n : Int)) (by omega)
  omega

end Go.Proofs.YtgpbnbmjgcchfaaGreatDoor

/- Defined of package system walked. -/
namespace Go.Proofs.YtgpbnbmjgcchfaaGreatDoor
open Go.RowKit Go.Maps Go.BigFrame

theorem rules_right {sig : List Sy} : ∀ (rs : List Rl) (k : Nat), (rulesGo sig k rs).1 = 0 → ∀ r ∈ rs, ruleE sig r = 0
  | [], _, _, r, hr => by simp at hr
  | a :: rs, k, h, r, hr => by
    unfold rulesGo at h
    by_cases ha : ruleE sig a = 0
    · rw [if_pos ha] at h
      rcases List.mem_cons.1 hr with rfl | hr
      · exact ha
      · exact rules_right rs (k + 1) h r hr
    · rw [if_neg ha] at h
      exact absurd h ha

theorem sys_right {sig : List Sy} {rs : List Rl} (h : sysB sig rs = true) : aheadE sig rs.length = 0 ∧ ∀ r ∈ rs, ruleE sig r = 0 := by
  have h1 : (sysE sig rs).1 = 0 := by simpa [sysB] using h
  unfold sysE at h1
  by_cases ha : aheadE sig rs.length = 0
  · rw [if_pos ha] at h1
    exact ⟨ha, rules_right rs 0 h1⟩
  · rw [if_neg ha] at h1
    exact absurd h1 ha

theorem rule_parts {sig : List Sy} {r : Rl} (h : ruleE sig r = 0) : termE sig r.1 = 0 ∧ termE sig r.2 = 0 ∧ r.1.length ≤ 512 ∧ r.2.length ≤ 512 ∧ (0 : Int) ≤ (r.1[0]?).getD 0 ∧ freeB r.1 r.2 = false := by
  unfold ruleE at h
  by_cases h1 : termE sig r.1 = 0
  · rw [if_pos h1] at h
    by_cases h2 : termE sig r.2 = 0
    · rw [if_pos h2] at h
      by_cases h3 : 512 < r.1.length ∨ 512 < r.2.length
      · rw [if_pos h3] at h; omega
      · rw [if_neg h3] at h
        by_cases h4 : (r.1[0]?).getD 0 < 0
        · rw [if_pos h4] at h; omega
        · rw [if_neg h4] at h
          cases h5 : freeB r.1 r.2 with
          | true => rw [h5] at h; simp at h
          | false => exact ⟨h1, h2, by omega, by omega, by omega, rfl⟩
    · rw [if_neg h2] at h
      exact absurd h h2
  · rw [if_neg h1] at h
    exact absurd h h1

theorem ahead_parts {sig : List Sy} {n : Nat} (h : aheadE sig n = 0) : sigE sig = 0 ∧ sig.length ≤ 64 ∧ (sig.any fun s => sufB s.1) = false ∧ n ≤ 64 := by
  unfold aheadE at h
  by_cases h1 : sigE sig = 0
  · rw [if_pos h1] at h
    by_cases h2 : 64 < sig.length
    · rw [if_pos h2] at h; omega
    · rw [if_neg h2] at h
      cases h3 : (sig.any fun s => sufB s.1) with
      | true => rw [h3] at h; simp at h
      | false =>
        rw [h3] at h
        by_cases h4 : 64 < n
        · simp [h4] at h
        · exact ⟨h1, by omega, rfl, by omega⟩
  · rw [if_neg h1] at h
    exact absurd h h1

/-- The codes at the roots of left sides. -/
def rootsL (rs : List Rl) : List Int := rs.map fun r => (r.1[0]?).getD 0

def definedL (sig : List Sy) (rs : List Rl) : List Int := if sysB sig rs then Lib.compact (sortI (rootsL rs)) else []

end Go.Proofs.YtgpbnbmjgcchfaaGreatDoor

/- arity, beginsAlike, matches and check of package step walked; SortStableFunc. -/
namespace Go.Proofs.YtgpbnbmjgcchfaaGreatDoor
open Go.RowKit Go.Maps Go.BigFrame

set_option maxRecDepth 100000 in
theorem stableNil_any (w : World) : Calls Tryz.prog 60 #[.slice none 0 0, .int .i64 0, cmpF] w fun e w' => e = .returned (.tuple #[]) ∧ w' = w := by
  go_enter Tryz.func60, Tryz.ntmps60
  go_wp2
  go_loopw [7, 8] (fun av bv wr => av = .int .i64 0 ∧ bv = .int .i64 20 ∧ wr = w) (fun _ _ _ => 0)
  case atStart => exact ⟨rfl, rfl, rfl⟩
  case round =>
    obtain ⟨rfl, rfl, hw⟩ := hrel
    have hw8 := hw.symm
    subst hw8
    go_wp2_with fail
    refine (insertionNil_any _ _ 0 w (by omega)).mono ?_
    rintro e w1 ⟨rfl, hw1⟩
    have hw9 := hw1.symm
    subst hw9
    clear hw1 hw
    go_wp2
    go_loopw [6] (fun bv wr => bv = .int .i64 20 ∧ wr = w) (fun _ _ => 0)
    case atStart => exact ⟨rfl, rfl⟩
    case round =>
      obtain ⟨rfl, hw⟩ := hrel
      have hw8 := hw.symm
      subst hw8
      go_wp2
      go_end0
      exact ⟨rfl, rfl⟩

set_option maxRecDepth 100000 in
theorem sortStable_any (base : Nat) (v : Value) (d : List Rx) (w : World) (h : OX w base v d) (hl : d.length ≤ 1152921504606846976) :
    Calls Tryz.prog 32 #[v, cmpF] w fun e w' => ∃ M, e = .returned (.tuple #[]) ∧ (Up M ∧ Fil M d) ∧ OX w' base v M ∧ w.grownBy w' v.ownBlock := by
  have HO := hid h
  by_cases h0 : v = .slice none 0 0
  · subst h0
    have hd : d = [] := List.eq_nil_of_length_eq_zero h.len
    subst hd
    clear h
    go_enter Tryz.func32, Tryz.ntmps32
    go_wp2_with fail
    refine (stableNil_any w).mono ?_
    rintro e w1 ⟨rfl, hw1⟩
    have hw9 := hw1.symm
    subst hw9
    clear hw1
    go_wp2
    go_end0
    exact ⟨[], rfl, ⟨List.Pairwise.nil, Fil.refl _⟩, HO.out, World.grownBy.refl _ _⟩
  · obtain ⟨g, cap, hv, hcap, hm⟩ : ∃ g cap, v = .slice (some ⟨g, 0, none⟩) d.length cap ∧ d.length ≤ cap ∧ cap ≤ 9223372036854775807 := by
      rcases h.2.2 with ⟨hv, _⟩ | ⟨g, cap, cur, hv, hb, hg, hc, hm, hs, ht⟩
      · exact absurd hv h0
      · exact ⟨g, cap, hv, hc, by unfold maxLen at hm; omega⟩
    subst hv
    obtain ⟨L, hL⟩ : ∃ L, L = d.length := ⟨_, rfl⟩
    rw [← hL] at HO hcap hl ⊢
    clear h h0 hL
    go_enter Tryz.func32, Tryz.ntmps32
    go_wp2_with fail
    refine (stable_any g cap base L d w HO.out hcap hm hl).mono ?_
    rintro e w1 ⟨M, rfl, hM, o1, g1⟩
    have HM := hid hM
    have O1 := hid o1
    have G1 := hid g1
    clear hM o1 g1
    go_wp2
    go_end0
    exact ⟨M, rfl, HM.out, O1.out, G1.out⟩

/-- The arity of a code. -/
def arC (sig : List Sy) (c : Int) : Int := if c < 0 then 0 else ((sig[c.toNat]?).map Prod.snd).getD 0

set_option maxRecDepth 100000 in
theorem arity_any (sv : Value) (sig : List Sy) (c : Int) (w : World) (hs : Sg w sv sig) (hc : c < (sig.length : Int)) :
    Calls Tryz.prog 58 #[sv, .int .i64 c] w fun e w' => e = .returned (.int .i64 (arC sig c)) ∧ w' = w := by
  obtain ⟨so, sc, rfl, hso, hsc, _⟩ := Row.flat hs
  unfold maxLen at hsc
  by_cases h0 : c < 0
  · have hd : decide (c < 0) = true := by simpa using h0
    have HF : Hid (arC sig c = 0) := by show _ = _; unfold arC; rw [if_pos h0]
    clear hs
    go_enter Tryz.func58, Tryz.ntmps58
    go_wp2
    go_ret
    exact ⟨ret1i HF.out.symm, rfl⟩
  · obtain ⟨n, rfl⟩ : ∃ n : Nat, c = (n : Int) := ⟨c.toNat, by omega⟩
    obtain ⟨g, off, s, a, rfl, hm, hc0, hc1, _⟩ := hs.at (k := n) (by omega)
    have HF : Hid (arC sig (n : Int) = a) := by show _ = _; unfold arC; rw [if_neg h0, Int.toNat_natCast, hm]; rfl
    have hd : decide ((n : Int) < 0) = false := by simp
    have hlt : n < sig.length := by omega
    clear hs hm hc0
    go_enter Tryz.func58, Tryz.ntmps58
    go_wp2
    go_ret
    exact ⟨ret1i HF.out.symm, rfl⟩

/-- A left side held against a term as far as its first variable. -/
def begB : List Int → List Int → Bool
  | [], _ => true
  | c :: l, t => if c < 0 then true else match t with | [] => false | x :: t => if c = x then begB l t else false

/-- Whether binds make the left side the term. -/
def Hit (sig : List Sy) (l t : List Int) : Prop := ∃ f, Rt sig f ∧ Sm f l t

theorem hit_beg {sig : List Sy} : ∀ (l t : List Int), Hit sig l t → begB l t = true
  | [], t, _ => rfl
  | c :: l, t, ⟨f, hf, h1, h2⟩ => by
    unfold begB
    by_cases h0 : c < 0
    · rw [if_pos h0]
    · rw [if_neg h0]
      rw [laidL_cons] at h2
      have hp : piece f c = [c] := by unfold piece; rw [if_neg h0]
      rw [hp] at h2
      cases t with
      | nil => simp at h2
      | cons x t =>
        simp only [List.cons_append, List.nil_append, List.cons.injEq] at h2
        show (if c = x then begB l t else false) = true
        rw [if_pos h2.1]
        exact hit_beg l t ⟨f, hf, fun d hd => h1 d (List.mem_cons_of_mem _ hd), h2.2⟩

/-- No term is a beginning of a longer one. -/
theorem no_prefix {sig : List Sy} {l t : List Int} (hl : rowE sig l = 0) (ht : rowE sig t = 0) {k : Nat} (he : l.take k = t.take k) (hk : k < l.length) : k < t.length := by
  by_cases h : k < t.length
  · exact h
  · exfalso
    rw [List.take_of_length_le (show t.length ≤ k by omega)] at he
    have e : l = t ++ l.drop k := by rw [← he, List.take_append_drop]
    have h1 := first_right ht (l.drop k)
    rw [← e] at h1
    have h2 := first_right hl []
    rw [List.append_nil, h1] at h2
    have h3 : (t.length : Int) = l.length := congrArg Prod.fst h2
    have h4 : t.length = min k l.length := by rw [← he, List.length_take]
    omega

set_option maxRecDepth 100000 in
set_option maxHeartbeats 800000 in
theorem begins_any (lv tv : Value) (sig : List Sy) (l t : List Int) (w : World) (hl : Is w lv l) (ht : Is w tv t) (hrl : rowE sig l = 0) (hrt : rowE sig t = 0) :
    Calls Tryz.prog 59 #[lv, tv] w fun e w' => e = .returned (.bool (begB l t)) ∧ w' = w := by
  obtain ⟨lo, lc, rfl, hlo, hlc, _⟩ := hl.flatI
  obtain ⟨to2, tc, rfl, hto, htc, _⟩ := ht.flatI
  have HL := hid hl
  have HT := hid ht
  have HP : Hid (∀ k, l.take k = t.take k → k < l.length → k < t.length) := fun k h1 h2 => no_prefix hrl hrt h1 h2
  clear hl ht hrl hrt
  go_enter Tryz.func59, Tryz.ntmps59
  go_wp2
  go_loopw [9] (fun iv wr => ∃ k : Nat, k ≤ l.length ∧ iv = .int .i64 k ∧ l.take k = t.take k ∧ begB l t = begB (l.drop k) (t.drop k) ∧ wr = w) (fun iv _ => l.length - (intOf iv).toNat)
  case atStart => exact ⟨0, Nat.zero_le _, rfl, by simp, by simp, rfl⟩
  case round =>
    obtain ⟨k, hk, rfl, he, hb, hw⟩ := hrel
    have hw8 := hw.symm
    subst hw8
    have HEq := hid he
    have HB := hid hb
    clear hw he hb
    by_cases hlt : k < l.length
    · have hlt2 := HP.out k HEq.out hlt
      obtain ⟨g, off, c, rfl, hc1, hc2, _, _⟩ := HL.out.at hlt
      obtain ⟨g2, off2, x, rfl, hx1, hx2, _, _⟩ := HT.out.at hlt2
      have HD : Hid (begB l t = if c < 0 then true else if c = x then begB (l.drop (k + 1)) (t.drop (k + 1)) else false) := by
        show _ = _
        rw [HB.out, drop_get hc1, drop_get hx1]
        rfl
      have HC := hid hc1
      have HX := hid hx1
      clear hc1 hx1 HB
      by_cases h0 : c < 0
      · have hd : decide (c < 0) = true := by simpa using h0
        have HF : Hid (begB l t = true) := by show _ = _; rw [HD.out, if_pos h0]
        go_wp2
        go_ret
        exact ⟨ret1b HF.out.symm, rfl⟩
      · have hd : decide (c < 0) = false := by simpa using h0
        by_cases hcx : c = x
        · have hne : (c != x) = false := by simpa using hcx
          have HF : Hid (begB l t = begB (l.drop (k + 1)) (t.drop (k + 1))) := by show _ = _; rw [HD.out, if_neg h0, if_pos hcx]
          have HN : Hid (l.take (k + 1) = t.take (k + 1)) := by show _ = _; rw [take_get HC.out, take_get HX.out, HEq.out, hcx]
          clear hcx
          go_wp2
          go_roundw
          case rel => exact ⟨k + 1, hlt, by go_num, HN.out, HF.out, trivial⟩
          case measure => simp only [intOf]; omega
        · have hne : (c != x) = true := by rw [bne_iff_ne]; exact hcx
          have HF : Hid (begB l t = false) := by show _ = _; rw [HD.out, if_neg h0, if_neg hcx]
          clear hcx
          go_wp2
          go_ret
          exact ⟨ret1b HF.out.symm, rfl⟩
    · have HF : Hid (begB l t = true) := by show _ = _; rw [HB.out, List.drop_of_length_le (by omega)]; rfl
      go_wp2
      go_ret
      exact ⟨ret1b HF.out.symm, rfl⟩

/-- The same as a Bool. -/
noncomputable def hitB (sig : List Sy) (l t : List Int) : Bool := @decide (Hit sig l t) (Classical.propDecidable _)

theorem hitB_true {sig : List Sy} {l t : List Int} (h : Hit sig l t) : hitB sig l t = true := @decide_eq_true _ (Classical.propDecidable _) h

theorem hitB_false {sig : List Sy} {l t : List Int} (h : ¬ Hit sig l t) : hitB sig l t = false := @decide_eq_false _ (Classical.propDecidable _) h

set_option maxRecDepth 100000 in
set_option maxHeartbeats 800000 in
theorem matches_any (sv lv rv tv : Value) (sig : List Sy) (l r t : List Int) (w : World) (hs : Sg w sv sig) (hl : Is w lv l) (hr : Is w rv r) (ht : Is w tv t) (hT : Tabs w) (htl : termE sig l = 0) (htt : termE sig t = 0) (h1 : l.length * 32 ≤ 140737488351232) (h2 : t.length * 16 ≤ 140737488351232) :
    Calls Tryz.prog 31 #[sv, .agg #[lv, rv], tv] w fun e w' => e = .returned (.bool (hitB sig l t)) ∧ Below w.heap.size w w' := by
  obtain ⟨a1, c1, e1, _⟩ := hl.flatI
  subst e1
  obtain ⟨a2, c2, e2, _⟩ := hr.flatI
  subst e2
  have HS := hid hs
  have HL := hid hl
  have HTt := hid ht
  have HT := hid hT
  have HRl := hid htl
  have HRt := hid htt
  clear hs hl hr ht hT htl htt
  obtain ⟨w0, hw0⟩ : ∃ X, X = w.alloc (.cells #[.slice a1 l.length c1, .slice a2 r.length c2] 64) := ⟨_, rfl⟩
  have C0 : Hid (Below w.heap.size w w0) := by rw [hw0]; exact below_alloc _
  have x0 : w0.cell? ⟨w.heap.size, 0, none⟩ = some (.slice a1 l.length c1) := by rw [hw0]; exact cell_new rfl
  go_enter Tryz.func31, Tryz.ntmps31
  go_wp2_with fail
  rw [← hw0]
  clear hw0
  refine (begins_any _ _ sig l t w0 (HL.out.kp (Kp.of_below C0.out)) (HTt.out.kp (Kp.of_below C0.out)) (term_parts HRl.out).2 (term_parts HRt.out).2).mono ?_
  rintro e w1 ⟨rfl, hw1⟩
  have hw8 := hw1.symm
  subst hw8
  clear hw1
  cases hbb : begB l t with
  | false =>
    have HF : Hid (hitB sig l t = false) := hitB_false fun h => by rw [hit_beg l t h] at hbb; cases hbb
    clear hbb
    go_wp2
    go_ret
    exact ⟨ret1b HF.out.symm, C0.out⟩
  | true =>
    clear hbb
    go_wp2_with fail
    refine (match_any _ _ _ sig l t w0 (HS.out.kp (Kp.of_below C0.out)) (HL.out.kp (Kp.of_below C0.out)) (HTt.out.kp (Kp.of_below C0.out)) (HT.out.below C0.out) h1 h2).mono ?_
    rintro e w2 ⟨hb2, hres⟩
    have C2 := hid (below_step C0.out hb2)
    rcases hres with ⟨rfl, hno⟩ | ⟨v, f, rfl, _, _, hf, hsm, hob⟩
    · have HF : Hid (hitB sig l t = false) := hitB_false fun ⟨f, hf, h⟩ => by
        rcases hno with h9 | h9 | h9
        · exact h9 HRl.out
        · exact h9 HRt.out
        · exact h9 f hf h
      clear hno hb2
      go_wp2
      go_ret
      exact ⟨ret1b HF.out.symm, C2.out⟩
    · have HF : Hid (hitB sig l t = true) := hitB_true ⟨f, hf, hsm⟩
      clear hf hsm hob hb2
      go_wp2
      go_ret
      exact ⟨ret1b HF.out.symm, C2.out⟩

/-- What is wrong with a system and a term. -/
def stepE (sig : List Sy) (rs : List Rl) (t : List Int) : Int := if (sysE sig rs).1 = 0 then termE sig t else (sysE sig rs).1

set_option maxRecDepth 100000 in
set_option maxHeartbeats 800000 in
theorem stepCheck_any (sv rv tv : Value) (sig : List Sy) (rs : List Rl) (t : List Int) (w : World) (hs : Sg w sv sig) (hr : RU w rv rs) (ht : Is w tv t) (hT : Tabs w) (h1 : t.length * 8 ≤ 140737488351232) :
    Calls Tryz.prog 28 #[.agg #[sv, rv], tv] w fun e w' => e = .returned (.int .i64 (stepE sig rs t)) ∧ Below w.heap.size w w' := by
  obtain ⟨so, sc, rfl, hso, hsc, _⟩ := Row.flat hs
  obtain ⟨ro, rc, rfl, hro, hrc, _⟩ := Row.flat hr
  have HS := hid hs
  have HR := hid hr
  have HTt := hid ht
  have HT := hid hT
  clear hs hr ht hT
  obtain ⟨w0, hw0⟩ : ∃ X, X = w.alloc (.cells #[.slice so sig.length sc, .slice ro rs.length rc] 25) := ⟨_, rfl⟩
  have C0 : Hid (Below w.heap.size w w0) := by rw [hw0]; exact below_alloc _
  have HC : Hid (∀ W, Below w0.heap.size w0 W → W.cell? ⟨w.heap.size, 0, none⟩ = some (.slice so sig.length sc)) := fun W hW => by
    have hk := Kp.of_below hW
    rw [hw0] at hk
    exact hk.cell _ _ (cell_new rfl)
  go_enter Tryz.func28, Tryz.ntmps28
  go_wp2_with fail
  rw [← hw0]
  clear hw0
  refine (sysCheck_any _ _ sig rs w0 (HS.out.kp (Kp.of_below C0.out)) (HR.out.kp (Kp.of_below C0.out)) (HT.out.below C0.out)).mono ?_
  rintro e w1 ⟨rfl, hb1⟩
  have C1 := hid (below_step C0.out hb1)
  have x0 := HC.out w1 hb1
  clear hb1
  obtain ⟨E, hE⟩ : ∃ E, E = sysE sig rs := ⟨_, rfl⟩
  have HE : Hid (stepE sig rs t = if E.1 = 0 then termE sig t else E.1) := by show _ = _; unfold stepE; rw [hE]
  rw [← hE]
  clear hE
  obtain ⟨E1, E2⟩ := E
  by_cases h0 : E1 = 0
  · subst h0
    go_wp2_with fail
    refine (check_any _ _ sig t w1 (HS.out.kp (Kp.of_below C1.out)) (HTt.out.kp (Kp.of_below C1.out)) (HT.out.below C1.out) h1).mono ?_
    rintro e w2 ⟨rfl, hb2⟩
    have C2 := hid (below_step C1.out hb2)
    clear hb2 x0
    have HF : Hid (stepE sig rs t = termE sig t) := by show _ = _; rw [HE.out]; rfl
    generalize termE sig t = Z at HF ⊢
    go_wp2
    go_ret
    exact ⟨ret1i HF.out.symm, C2.out⟩
  · have hne : (E1 != 0) = true := by rw [bne_iff_ne]; exact h0
    have HF : Hid (stepE sig rs t = E1) := by show _ = _; rw [HE.out, if_neg h0]
    clear h0
    go_wp2
    go_ret
    exact ⟨ret1i HF.out.symm, C1.out⟩

end Go.Proofs.YtgpbnbmjgcchfaaGreatDoor

/- Going through a term, plainly. -/
namespace Go.Proofs.YtgpbnbmjgcchfaaGreatDoor
open Go.RowKit Go.Maps

/-- A term at a place is gone through: the places with their ends, those below ahead of it. -/
inductive Pv (sig : List Sy) : List Int → Nat → List (Nat × Nat) → Prop
  | mk (c : Int) (us : List (List Int)) (a : Nat) (vss : List (List (Nat × Nat))) (hc : c < (sig.length : Int)) (hn : (us.length : Int) = arC sig c) (hv : vss.length = us.length) (hr : rowE sig (c :: us.flatten) = 0)
      (h : ∀ (i : Nat) (u : List Int) (v : List (Nat × Nat)), us[i]? = some u → vss[i]? = some v → Pv sig u (a + 1 + (us.take i).flatten.length) v) : Pv sig (c :: us.flatten) a (vss.flatten ++ [(a, a + 1 + us.flatten.length)])

theorem term_split8 {sig : List Sy} (ha : ArOk sig) {c : Int} {r : List Int} (h : rowE sig (c :: r) = 0) : c < (sig.length : Int) ∧ ∃ us : List (List Int), (us.length : Int) = arC sig c ∧ r = us.flatten ∧ ∀ u ∈ us, rowE sig u = 0 := by
  have h1 := row_first.1 h
  rw [firstT_cons] at h1
  cases hd : codeD sig c with
  | none => rw [hd] at h1; simp at h1
  | some e =>
    rw [hd] at h1
    simp only at h1
    have hlt : c < (sig.length : Int) := by
      have : ¬ (sig.length : Int) ≤ c := fun h9 => by rw [codeD_none (.inl h9)] at hd; cases hd
      omega
    have he : 1 + e = arC sig c ∧ 0 ≤ arC sig c := by
      unfold codeD at hd
      unfold arC
      by_cases c1 : c < -1048576
      · rw [if_pos c1] at hd; cases hd
      · rw [if_neg c1] at hd
        by_cases c2 : c < 0
        · rw [if_pos c2] at hd ⊢
          cases hd
          exact ⟨by omega, by omega⟩
        · rw [if_neg c2] at hd ⊢
          cases hs : sig[c.toNat]? with
          | none => rw [hs] at hd; cases hd
          | some s =>
            rw [hs] at hd
            simp only [Option.some.injEq] at hd
            have := ha s (List.mem_of_getElem? hs)
            simp only [Option.map_some, Option.getD_some]
            omega
    refine ⟨hlt, ?_⟩
    by_cases h0 : 1 + e = 0
    · rw [if_pos h0] at h1
      have hl : r.length = 0 := by
        have := congrArg Prod.fst h1
        simp at this
        omega
      exact ⟨[], by simp; omega, by rw [List.eq_nil_of_length_eq_zero hl]; rfl, fun u hu => by cases hu⟩
    · rw [if_neg h0] at h1
      obtain ⟨m, hm⟩ : ∃ m : Nat, (m : Int) = 1 + e := ⟨(1 + e).toNat, by omega⟩
      rw [← hm] at h1
      obtain ⟨us, u1, u2, u3⟩ := split_first ha m r (0 + 1) (by omega) (by rw [h1]; simp only [List.length_cons, Prod.mk.injEq, and_true]; omega)
      exact ⟨us, by omega, u2, u3⟩

theorem flat_len8 {α : Type} {us : List (List α)} {u : List α} (h : u ∈ us) : u.length ≤ us.flatten.length := by
  obtain ⟨a, b, rfl⟩ := List.append_of_mem h
  rw [List.flatten_append, List.flatten_cons, List.length_append, List.length_append]
  omega

theorem pv_row {sig : List Sy} {n : Nat} (IH : ∀ u a, u.length ≤ n → rowE sig u = 0 → ∃ vs, Pv sig u a vs) : ∀ (us : List (List Int)) (b : Nat), (∀ u ∈ us, u.length ≤ n ∧ rowE sig u = 0) → ∃ vss : List (List (Nat × Nat)), vss.length = us.length ∧ ∀ (i : Nat) (u : List Int) (v : List (Nat × Nat)), us[i]? = some u → vss[i]? = some v → Pv sig u (b + (us.take i).flatten.length) v
  | [], b, _ => ⟨[], rfl, fun i u v h => by simp at h⟩
  | u :: us, b, h => by
    obtain ⟨v, hv⟩ := IH u b (h u (by simp)).1 (h u (by simp)).2
    obtain ⟨vss, hl, hvs⟩ := pv_row IH us (b + u.length) (fun x hx => h x (by simp [hx]))
    refine ⟨v :: vss, by simp [hl], fun i x y hx hy => ?_⟩
    cases i with
    | zero =>
      simp at hx hy
      subst hx hy
      simpa using hv
    | succ i =>
      simp only [List.getElem?_cons_succ] at hx hy
      have h9 := hvs i x y hx hy
      simp only [List.take_succ_cons, List.flatten_cons, List.length_append]
      rw [← Nat.add_assoc]
      exact h9

/-- Each term is gone through. -/
theorem pv_any {sig : List Sy} (ha : ArOk sig) : ∀ (n : Nat) (u : List Int) (a : Nat), u.length ≤ n → rowE sig u = 0 → ∃ vs, Pv sig u a vs
  | 0, u, a, hl, h => by
    have := row_posS h
    omega
  | n + 1, u, a, hl, h => by
    cases u with
    | nil => have := row_posS h; simp at this
    | cons c r =>
      obtain ⟨hc, us, hn, rfl, hu⟩ := term_split8 ha h
      have hlen : us.flatten.length ≤ n := by simpa using hl
      obtain ⟨vss, hv, hvs⟩ := pv_row (pv_any ha n) us (a + 1) (fun u hu9 => ⟨Nat.le_trans (flat_len8 hu9) hlen, hu u hu9⟩)
      exact ⟨_, Pv.mk c us a vss hc hn hv h hvs⟩

/-- A place of t and its end. -/
def VOk (sig : List Sy) (t : List Int) (v : Nat × Nat) : Prop := v.1 < v.2 ∧ v.2 ≤ t.length ∧ rowE sig ((t.drop v.1).take (v.2 - v.1)) = 0

theorem flat_split8 {α : Type} : ∀ {us : List (List α)} {i : Nat} {u : List α}, us[i]? = some u → us.flatten = (us.take i).flatten ++ u ++ (us.drop (i + 1)).flatten
  | [], i, u, h => by simp at h
  | x :: us, 0, u, h => by
    simp at h
    subst h
    simp
  | x :: us, i + 1, u, h => by
    have h9 := flat_split8 (us := us) (i := i) (u := u) (by simpa using h)
    simp only [List.flatten_cons, List.take_succ_cons, List.drop_succ_cons]
    rw [h9]
    simp

theorem pv_ok {sig : List Sy} {u : List Int} {a : Nat} {vs : List (Nat × Nat)} (h : Pv sig u a vs) : ∀ (t p q : List Int), t = p ++ u ++ q → p.length = a → ∀ v ∈ vs, VOk sig t v := by
  induction h with
  | mk c us a vss hc hn hv hr h ih =>
    intro t p q ht hp v hvm
    rcases List.mem_append.1 hvm with hvm | hvm
    · obtain ⟨vs, hvs, hvm⟩ := List.mem_flatten.1 hvm
      obtain ⟨i, hi⟩ := List.getElem?_of_mem hvs
      have hil : i < us.length := by have := (List.getElem?_eq_some_iff.1 hi).1; omega
      have hu : us[i]? = some us[i] := List.getElem?_eq_getElem hil
      refine ih i us[i] vs hu hi t (p ++ c :: (us.take i).flatten) ((us.drop (i + 1)).flatten ++ q) ?_ (by simp [hp]; omega) v hvm
      rw [ht, flat_split8 hu]
      simp
    · rw [List.mem_singleton] at hvm
      subst hvm
      refine ⟨by simp only; omega, ?_, ?_⟩
      · rw [ht]
        simp [hp]
        omega
      · simp only
        have e : (t.drop a).take (a + 1 + us.flatten.length - a) = c :: us.flatten := by
          rw [ht, List.append_assoc, ← hp, List.drop_left, show p.length + 1 + us.flatten.length - p.length = (c :: us.flatten).length by simp; omega, List.take_left]
        rw [e]
        exact hr

theorem pv_perm {sig : List Sy} {u : List Int} {a : Nat} {vs : List (Nat × Nat)} (h : Pv sig u a vs) : (vs.map Prod.fst).Perm (List.range' a u.length) := by
  induction h with
  | mk c us a vss hc hn hv hr h ih =>
    have key : ∀ (us : List (List Int)) (vss : List (List (Nat × Nat))) (b : Nat), vss.length = us.length → (∀ (i : Nat) (u : List Int) (v : List (Nat × Nat)), us[i]? = some u → vss[i]? = some v → (v.map Prod.fst).Perm (List.range' (b + (us.take i).flatten.length) u.length)) → (vss.flatten.map Prod.fst).Perm (List.range' b us.flatten.length) := by
      intro us
      induction us with
      | nil =>
        intro vss b hl _
        have : vss = [] := List.eq_nil_of_length_eq_zero (by simpa using hl)
        subst this
        simp
      | cons u us ihu =>
        intro vss b hl hp
        cases vss with
        | nil => simp at hl
        | cons v vss =>
          have h0 := hp 0 u v rfl rfl
          have h1 := ihu vss (b + u.length) (by simpa using hl) (fun i x y hx hy => by
            have h9 := hp (i + 1) x y (by simpa using hx) (by simpa using hy)
            simp only [List.take_succ_cons, List.flatten_cons, List.length_append] at h9
            rw [← Nat.add_assoc] at h9
            exact h9)
          simp only [List.flatten_cons, List.map_append, List.length_append]
          rw [← List.range'_append_1]
          simp only [List.take_zero, List.flatten_nil, List.length_nil, Nat.add_zero] at h0
          exact h0.append h1
    have h9 := key us vss (a + 1) hv (fun i u v hx hy => ih i u v hx hy)
    rw [List.map_append]
    simp only [List.map_cons, List.map_nil, List.length_cons]
    rw [List.range'_succ]
    exact (h9.append_right [a]).trans List.perm_append_comm

/-- As far as the first that stops. -/
def upto (s : Nat × Nat → Bool) : List (Nat × Nat) → List (Nat × Nat)
  | [] => []
  | v :: vs => v :: (if s v then [] else upto s vs)

theorem upto_no {s : Nat × Nat → Bool} : ∀ {a : List (Nat × Nat)} (b : List (Nat × Nat)), a.any s = false → upto s (a ++ b) = a ++ upto s b
  | [], b, _ => rfl
  | v :: a, b, h => by
    rw [List.any_cons, Bool.or_eq_false_iff] at h
    rw [List.cons_append, upto, h.1, upto_no b h.2]
    rfl

theorem upto_yes {s : Nat × Nat → Bool} : ∀ {a : List (Nat × Nat)} (b : List (Nat × Nat)), a.any s = true → upto s (a ++ b) = upto s a
  | [], b, h => by simp at h
  | v :: a, b, h => by
    rw [List.cons_append, upto, upto]
    cases hv : s v with
    | true => rfl
    | false =>
      rw [List.any_cons, hv, Bool.false_or] at h
      rw [upto_yes b h]

theorem upto_all {s : Nat × Nat → Bool} {a : List (Nat × Nat)} (h : a.any s = false) : upto s a = a := by
  have := upto_no [] h
  rw [List.append_nil] at this
  rw [this]
  simp [upto]

theorem pv_len {sig : List Sy} {u : List Int} {a : Nat} {vs : List (Nat × Nat)} (h : Pv sig u a vs) : vs.length = u.length := by
  have h9 := (pv_perm h).length_eq
  simpa using h9

theorem lens_take {α β : Type} {us : List (List α)} {vss : List (List β)} (hl : vss.length = us.length) (h : ∀ (i : Nat) (u : List α) (v : List β), us[i]? = some u → vss[i]? = some v → v.length = u.length) (i : Nat) : (vss.take i).flatten.length = (us.take i).flatten.length := by
  have e : vss.map List.length = us.map List.length := by
    apply List.ext_getElem (by simp [hl])
    intro k h1 h2
    rw [List.length_map] at h1 h2
    rw [List.getElem_map, List.getElem_map]
    exact h k _ _ (List.getElem?_eq_getElem h2) (List.getElem?_eq_getElem h1)
  rw [List.length_flatten, List.length_flatten, List.map_take, List.map_take, e]

end Go.Proofs.YtgpbnbmjgcchfaaGreatDoor
