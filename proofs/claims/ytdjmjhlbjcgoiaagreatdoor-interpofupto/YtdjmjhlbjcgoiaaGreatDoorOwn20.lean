/- Texts of the proof, one behind the other. -/
import Derived.Test.YtdjmjhlbjcgoiaaGreatDoorOwn18
import Derived.Test.YtdjmjhlbjcgoiaaGreatDoorOwn19
import Derived.Test.YtdjmjhlbjcgoiaaGreatDoorOwn5
/- The document's laid of layer 12. -/
namespace Go.Proofs.YtdjmjhlbjcgoiaaGreatDoor
open Go.RowKit Go.Maps Go.BigFrame

/-- The rest of a row, as a slice. -/
theorem is_tail12 {w : World} {g o y c : Nat} {t : List Int} (h : Is w (.slice (some ⟨g, o, none⟩) t.length c) t) (hy : y ≤ t.length) (hc : t.length ≤ c) : Is w (.slice (if c = y then some ⟨g, o, none⟩ else some ⟨g, o + y, none⟩) (t.length - y) (c - y)) (t.drop y) := by
  by_cases h1 : y < t.length
  · rw [if_neg (by omega)]
    have h9 := h.mid (k := y) (m := t.length - y) h1 (by omega)
    rw [List.take_of_length_le (by rw [List.length_drop]; exact Nat.le_refl _)] at h9
    exact h9
  · have e : t.drop y = [] := List.drop_of_length_le (by omega)
    rw [e, show t.length - y = 0 by omega]
    obtain ⟨_, _, hv, _, hm, _⟩ := h
    simp only [Value.slice.injEq] at hv
    exact Row.nil (by have := hv.2.2; omega)

theorem var12 {sig : List Sy} {c : Int} {r : List Int} (h : rowE sig (c :: r) = 0) (hc : c < 0) : r = [] := by
  have h1 := row_first.1 h
  rw [firstT_cons] at h1
  cases hd : codeD sig c with
  | none => rw [hd] at h1; simp at h1
  | some e =>
    rw [hd] at h1
    have := codeD_neg hd hc
    subst this
    simp only at h1
    rw [if_pos (by omega)] at h1
    have := congrArg Prod.fst h1
    simp at this
    exact List.eq_nil_of_length_eq_zero (by omega)

theorem kids12 {sig : List Sy} (ha : ArOk sig) {c : Int} {r : List Int} (h : rowE sig (c :: r) = 0) (hc : ¬ c < 0) : c.toNat < sig.length ∧ ∃ us : List (List Int), us.length = arN sig c ∧ r = us.flatten ∧ ∀ u ∈ us, rowE sig u = 0 := by
  have h1 := row_first.1 h
  rw [firstT_cons] at h1
  cases hd : codeD sig c with
  | none => rw [hd] at h1; simp at h1
  | some e =>
    rw [hd] at h1
    simp only at h1
    obtain ⟨k1, k2⟩ := codeD_ar ha hd hc
    refine ⟨k2, ?_⟩
    by_cases h0 : 1 + e = 0
    · rw [if_pos h0] at h1
      have hl : r.length = 0 := by
        have := congrArg Prod.fst h1
        simp at this
        omega
      exact ⟨[], by simp; omega, by rw [List.eq_nil_of_length_eq_zero hl]; rfl, fun u hu => by cases hu⟩
    · rw [if_neg h0, show (1 : Int) + e = (arN sig c : Int) by omega] at h1
      exact split_first ha _ r (0 + 1) (by omega) (by rw [h1]; simp only [List.length_cons, Prod.mk.injEq, and_true]; omega)

theorem idx_before : ∀ {vs : List Int} {c : Int} {j : Nat} {x : Int}, j < vs.idxOf c → vs[j]? = some x → x ≠ c
  | [], c, j, x, _, h => by simp at h
  | y :: r, c, j, x, hj, h => by
    rw [List.idxOf_cons] at hj
    by_cases e : y = c
    · subst e
      simp at hj
    · have e2 : (y == c) = false := by simpa using e
      rw [e2] at hj
      cases j with
      | zero => simp at h; subst h; exact e
      | succ j => exact idx_before (vs := r) (by simpa using hj) (by simpa using h)

theorem laidO_var {sig : List Sy} {l : List Ip} {vs : List Int} {c : Int} (hc : c < 0) : laidO sig l vs [c] = if 512 ≤ vs.idxOf c then none else some (vpol (vs.idxOf c)) := by
  have hf : ([c] : List Int).any (farB vs) = decide (512 ≤ vs.idxOf c) := by simp [farB, hc]
  by_cases h : 512 ≤ vs.idxOf c
  · rw [if_pos h, laidO_far (by rw [hf]; simpa using h)]
  · rw [if_neg h, laidO_some (by rw [hf]; simpa using h) (ofS_var (st := []) rfl hc)]
    rfl

theorem laid_far_sub {vs : List Int} {u t : List Int} (h : u.any (farB vs) = true) (hs : ∀ c ∈ u, c ∈ t) : t.any (farB vs) = true := by
  rw [List.any_eq_true] at h ⊢
  obtain ⟨c, h1, h2⟩ := h
  exact ⟨c, hs c h1, h2⟩

/-- One of the arguments is too big. -/
theorem laidO_bad {sig : List Sy} (ha : ArOk sig) {l : List Ip} {vs : List Int} {c : Int} {us : List (List Int)} (hu : ∀ u ∈ us, rowE sig u = 0) {u : List Int} (hm : u ∈ us) (hn : laidO sig l vs u = none) : laidO sig l vs (c :: us.flatten) = none := by
  by_cases hf : u.any (farB vs) = true
  · exact laidO_far (laid_far_sub hf fun x hx => List.mem_cons_of_mem _ (List.mem_flatten.2 ⟨u, hm, hx⟩))
  · have hf2 : u.any (farB vs) = false := by simpa using hf
    rcases ofS_one (sp := spol l) (vp := vCo vs) ha (hu u hm) with h1 | ⟨p, h1⟩
    · exact laidO_none (ofS_none (ofS_flat_none ha hu ⟨u, hm, h1⟩) c)
    · rw [laidO_some hf2 h1] at hn
      cases hn

/-- All arguments are in bounds. -/
theorem laidO_app {sig : List Sy} (ha : ArOk sig) {l : List Ip} {vs : List Int} {c : Int} (hc : ¬ c < 0) {us : List (List Int)} {ps : List (List Mn)} (hl : us.length = arN sig c) (hu : ∀ u ∈ us, rowE sig u = 0) (hp : us.length = ps.length) (h : ∀ (i : Nat) u p, us[i]? = some u → ps[i]? = some p → laidO sig l vs u = some p) :
    laidO sig l vs (c :: us.flatten) = if compE (spol l c) ps = 0 then some (compL (spol l c) ps) else none := by
  have hk : ∀ (i : Nat) u p, us[i]? = some u → ps[i]? = some p → u.any (farB vs) = false ∧ ofS sig (spol l) (vCo vs) u = some [p] := fun i u p h1 h2 => by
    have h9 := h i u p h1 h2
    by_cases hf : u.any (farB vs) = true
    · rw [laidO_far hf] at h9; cases h9
    · have hf2 : u.any (farB vs) = false := by simpa using hf
      refine ⟨hf2, ?_⟩
      rcases ofS_one (sp := spol l) (vp := vCo vs) ha (hu u (List.mem_of_getElem? h1)) with h3 | ⟨q, h3⟩
      · rw [laidO_none h3] at h9; cases h9
      · rw [laidO_some hf2 h3] at h9
        cases h9
        exact h3
  have hfl := ofS_flat ha hu hp (fun i u p h1 h2 => (hk i u p h1 h2).2)
  have hpl : ps.length = arN sig c := by omega
  have e1 : ps.take (arN sig c) = ps := List.take_of_length_le (by omega)
  have e2 : ps.drop (arN sig c) = [] := List.drop_of_length_le (by omega)
  by_cases h0 : compE (spol l c) ps = 0
  · rw [if_pos h0]
    refine laidO_some ?_ (by rw [ofS_yes hfl hc (by rw [e1]; exact h0), e1, e2])
    rw [List.any_eq_false]
    intro x hx
    rcases List.mem_cons.1 hx with rfl | hx
    · simp [farB, hc]
    · obtain ⟨u, hum, hxu⟩ := List.mem_flatten.1 hx
      obtain ⟨i, hi⟩ := List.getElem?_of_mem hum
      have hil := (List.getElem?_eq_some_iff.1 hi).1
      have := (hk i u _ hi (List.getElem?_eq_getElem (by omega))).1
      rw [List.any_eq_false] at this
      exact this x hxu
  · rw [if_neg h0]
    exact laidO_none (ofS_no hfl hc (by rw [e1]; exact h0))

/-- What laid leaves. -/
def LdO (o : Option (List Mn)) (z : List Int) (A : Nat → Bool) (w0 : World) (e : Ending) (w' : World) : Prop :=
  match o with
  | none => ∃ a b, e = .returned (.tuple #[a, b, .bool false])
  | some p => ∃ pa pn pc ra rc, e = .returned (.tuple #[.slice pa pn pc, .slice ra z.length rc, .bool true]) ∧ Ms (onlyY A w') (.slice pa pn pc) p ∧ Is w0 (.slice ra z.length rc) z

def LdC (sig : List Sy) (l : List Ip) (vs u : List Int) : Prop :=
  ∀ (A : Nat → Bool) (w0 w : World) (sv lv vv : Value) (ta : Option Addr) (cap : Nat) (T z : List Int), (∀ g, w.heap.size ≤ g → A g = true) → Below w0.heap.size w0 w → Sg w sv sig → Ins (onlyY A w) lv l → Is w vv vs → T = u ++ z → Is w0 (.slice ta T.length cap) T →
    Calls Tryz.prog 48 #[sv, lv, vv, .slice ta T.length cap] w fun e w' => Below w.heap.size w w' ∧ LdO (laidO sig l vs u) z A w0 e w'

theorem om_only {A : Nat → Bool} {w : World} {base : Nat} {v : Value} {p : List Mn} (h : OM w base v p) (hA : ∀ g, base ≤ g → A g = true) : Ms (onlyY A w) v p := by
  obtain ⟨cs, hl, hc, ho⟩ := h
  exact OM.ms (base := base) ⟨cs, hl, fun i c m h1 h2 => ⟨⟨(hc i c m h1 h2).1.1, only_owns (hc i c m h1 h2).1.2 hA⟩, (hc i c m h1 h2).2.1, only_owns (hc i c m h1 h2).2.2 hA⟩, only_owns ho hA⟩

theorem rep_snoc (k : Nat) : List.replicate k (0 : Int) ++ [0] = List.replicate (k + 1) 0 := (List.replicate_succ' (n := k) (a := (0 : Int))).symm

set_option maxRecDepth 100000 in
set_option maxHeartbeats 6400000 in
theorem laidVar_any {sig : List Sy} {l : List Ip} {vs : List Int} {c : Int} (hc : c < 0) (hm : c ∈ vs) (hvl : vs.length ≤ 17592186043904) : LdC sig l vs [c] := by
  intro A w0 w sv lv vv ta cap T z hA hB0 hs hl hv hTe ht
  obtain ⟨va, vc, rfl, hvc1, hvc2, _⟩ := Row.flat hv
  unfold maxLen at hvc2
  have hTl : 0 < T.length := by rw [hTe]; simp
  obtain ⟨gt, ot, c', rfl, ht0, htc, hb1, hb2⟩ := ht.at hTl
  have hT1 : Hid (T.drop 1 = z) := by show _ = _; rw [hTe]; rfl
  obtain rfl : c' = c := by rw [hTe] at ht0; simpa using ht0.symm
  rw [Nat.add_zero] at htc
  have htc := (Kp.of_below hB0).cell _ _ htc
  obtain ⟨_, capT, hv9, hto, htm, _⟩ := Row.flat ht
  simp only [Value.slice.injEq, true_and] at hv9
  obtain ⟨rfl, rfl⟩ := hv9
  unfold maxLen at htm
  have HV := hid hv
  have HT := hid ht
  have HA := hid hA
  obtain ⟨K, hK⟩ : ∃ K, K = vs.idxOf c' := ⟨_, rfl⟩
  have hKl : K < vs.length := by rw [hK]; exact List.idxOf_lt_length_of_mem hm
  have HK1 : Hid (vs[K]? = some c') := by show _ = _; subst hK; rw [List.getElem?_eq_getElem hKl]; simp
  have HK2 : Hid (∀ (j : Nat) x, j < K → vs[j]? = some x → x ≠ c') := fun j x hj hx => idx_before (by rw [← hK]; exact hj) hx
  have HKe := hid hK
  have hcd : decide (c' < 0) = true := by simpa using hc
  have hLo0 : laidO sig l vs [c'] = if 512 ≤ K then none else some (vpol K) := by rw [laidO_var hc, HKe.out]
  generalize laidO sig l vs [c'] = Lo at hLo0
  have HLo : Hid (Lo = if 512 ≤ K then none else some (vpol K)) := hid hLo0
  clear hLo0
  clear hs hl hv ht hTe ht0 hA hm hK hB0
  go_enter Tryz.func48, Tryz.ntmps48
  go_upto_region 1 with fail
  have hTz : T.length - 1 = z.length := by have := congrArg List.length hT1.out; rw [List.length_drop] at this; exact this
  go_cut [11] from 22 to 23 (fun x wx => (∃ ra m rc, x = .slice ra m rc ∧ m = z.length ∧ Is w0 (.slice ra m rc) z) ∧ wx = w)
  case first =>
    have h9 := is_tail12 HT.out (y := 1) (by omega) hto
    rw [hT1.out] at h9
    have HTz := hid hTz
    clear hTz
    by_cases h1 : cap = 1
    · rw [if_pos h1] at h9
      subst h1
      have h0 : T.length - 1 = 0 := by omega
      have H0 := hid h0
      have H9 := hid h9
      clear h9 h0
      go_wp2
      go_meet
      case rel => exact ⟨⟨_, _, _, rfl, by rw [← HTz.out, H0.out], by have h8 := H9.out; rw [H0.out] at h8; exact h8⟩, by trivial⟩
    · rw [if_neg h1] at h9
      have H9 := hid h9
      clear h9
      go_wp2
      go_meet
      case rel => exact ⟨⟨_, _, _, rfl, HTz.out, H9.out⟩, by trivial⟩
  obtain ⟨⟨ra, m, rc, rfl, rfl, hr⟩, hwx⟩ := hcut
  have hwx' := hwx.symm
  subst hwx'
  clear hwx hTz
  have HR := hid hr
  clear hr
  obtain ⟨w2, hw2⟩ : ∃ X, X = w.alloc (.cells #[] 3) := ⟨_, rfl⟩
  have HO2 : Hid (OwI w2 w.heap.size (.slice (some ⟨w.heap.size, 0, none⟩) 0 0) (List.replicate 0 0)) := ⟨fun k x hk => by simp at hk, by rw [hw2]; exact empty_ints w (Nat.le_refl _)⟩
  have HB2 : Hid (Below w.heap.size w w2) := by rw [hw2]; exact below_alloc _
  go_wp2
  rw [← hw2]
  clear hw2
  go_loopw [12, 13] (fun x i wr => ∃ k : Nat, k ≤ K ∧ i = .int .i64 k ∧ OwI wr w.heap.size x (List.replicate k 0) ∧ Below w.heap.size w wr) (fun _ i _ => K - (intOf i).toNat)
  case atStart => exact ⟨0, Nat.zero_le _, rfl, HO2.out, HB2.out⟩
  case round =>
    clear HO2 HB2
    obtain ⟨k, hk, rfl, hox, hbl⟩ := hrel
    have HO := hid hox
    have HB := hid hbl
    obtain ⟨xa, xc, hxv, hxc1, hxc2⟩ := hox.shape
    rw [List.length_replicate] at hxv hxc1
    subst hxv
    unfold maxLen at hxc2
    have htc2 := (Kp.of_below hbl).cell _ _ htc
    have hkv : k < vs.length := by omega
    obtain ⟨gv, ov, x, rfl, hx, hxcl, hx1, hx2⟩ := HV.out.at hkv
    have hxw := (Kp.of_below hbl).cell _ _ hxcl
    have HX := hid hx
    clear hox hbl hx hxcl
    by_cases hlt : k < K
    · as_aux_lemma =>
        have hne : (x != c') = true := by simpa using HK2.out k x hlt HX.out
        go_wp2
        go_quiet (fail)
        obtain ⟨wq, hwq⟩ : ∃ X, X = wr.drewN nq := ⟨_, rfl⟩
        rw [← hwq]
        have HOq := hid (HO.out.later (drawn_below hwq))
        have HBq := hid (below_step HB.out (drawn_below hwq))
        clear hwq HO HB
        obtain ⟨v4, w4, hr4, ho4, hg4, _⟩ := join_one 30 (c := 0) HOq.out (by omega) (by omega) HBq.out.size (by rw [List.length_replicate]; omega)
        rw [rep_snoc] at ho4
        have HB4 := hid ((below_step HBq.out (below_alloc (.cells #[.int .i64 0] 3))).grown hg4 (Nat.le_trans HBq.out.size (below_alloc _).size) (fun j hj => own_blk HOq.out.2 hj))
        have HR4 := hid hr4
        have HO4 := hid ho4
        have hwk : IntKind.i64.wrap ((k : Int) + 1) = ((k + 1 : Nat) : Int) := by rw [IntWalk.i64_in _ ⟨by omega, by omega⟩]; omega
        clear hr4 ho4 hg4
        go_wp2_with (first
          | (at_builtin; refine wpList_append_run rfl _ _ _ rfl _ _ rfl rfl HR4.out ?_))
        go_roundw
        case rel => exact ⟨k + 1, hlt, by go_num, HO4.out, HB4.out⟩
        case measure => simp only [intOf]; omega
    · as_aux_lemma =>
        obtain rfl : k = K := by omega
        obtain rfl : x = c' := by have := HX.out; rw [HK1.out] at this; exact (Option.some.inj this).symm
        have hne : (x != x) = false := by simp
        go_wp2
        go_quiet (fail)
        obtain ⟨wq, hwq⟩ : ∃ X, X = wr.drewN nq := ⟨_, rfl⟩
        rw [← hwq]
        have HOq := hid (HO.out.later (drawn_below hwq))
        have HBq := hid (below_step HB.out (drawn_below hwq))
        clear hwq HO HB
        have hc5 := ow_new1 (w := wq) (base := w.heap.size) HBq.out.size
        have hb5 := below_alloc (w := wq) (.cells #[.int .u32 1] 38)
        obtain ⟨v6, w6, hr6, ho6, hg6, _⟩ := join_one 30 (c := 1) (HOq.out.later hb5) (by omega) (by omega) (Nat.le_trans HBq.out.size hb5.size) (by rw [List.length_replicate]; omega)
        have hb56 := (below_step hb5 (below_alloc (.cells #[.int .i64 1] 3)))
        have hB6 : Below w.heap.size w w6 := (below_step HBq.out hb56).grown hg6 (Nat.le_trans HBq.out.size hb56.size) (fun j hj => own_blk HOq.out.2 hj)
        have hc6 : Ow w6 w.heap.size (.slice (some ⟨wq.heap.size, 0, none⟩) 1 1) [1] := (hc5.since (below_alloc (.cells #[.int .i64 1] 3))).held hg6 (ownsRow_apart (hc5.since (below_alloc (.cells #[.int .i64 1] 3))).2 (ownsRow_later HOq.out.2 hb56) (by decide))
        obtain ⟨ua, uc, huv, _, _⟩ := ho6.shape
        have hul : (List.replicate k (0 : Int) ++ [1]).length = k + 1 := by simp
        rw [hul] at huv
        subst huv
        have hO7 := om_new1 (m := ([1], List.replicate k (0 : Int) ++ [1])) hB6.size hc6 ho6
        have hB7 := below_step hB6 (below_alloc (.cells #[.slice (some ⟨wq.heap.size, 0, none⟩) 1 1, .slice ua (k + 1) uc] 37))
        obtain ⟨w7, hw7⟩ : ∃ X, X = w6.alloc (.cells #[.slice (some ⟨wq.heap.size, 0, none⟩) 1 1, .slice ua (k + 1) uc] 37) := ⟨_, rfl⟩
        rw [← hw7] at hO7 hB7
        have HO7 := hid hO7
        have HB7 := hid hB7
        rw [World.size_alloc] at hr6
        have HR6 := hid hr6
        clear hc5 hb5 hr6 ho6 hg6 hb56 hB6 hc6 hul hO7 hB7
        have HCk : Hid (checkR (vpol k) (vs.length : Int) = if k < 512 then 0 else 2) := by show _ = _; rw [checkR_eq, vpol_check hKl]
        go_wp2_with (first
          | (at_builtin; refine wpList_append_run rfl _ _ _ rfl _ _ rfl rfl HR6.out ?_)
          | fail)
        rw [← hw7]
        clear hw7 HR6
        refine (refCheck_anyY _ (vpol k) (vs.length : Int) w7 HO7.out.ms (by omega) (by omega)).mono ?_
        rintro e w8 ⟨rfl, hb8⟩
        rw [HCk.out]
        have HB8 := hid (below_step HB7.out hb8)
        have HM8 : Hid (Ms (onlyY A w8) (.slice (some ⟨w6.heap.size, 0, none⟩) 1 1) (vpol k)) := om_only (HO7.out.later hb8) HA.out
        clear hb8
        by_cases hk5 : k < 512
        · rw [if_pos hk5]
          have HLd : Hid (Lo = some (vpol k)) := by show _ = _; rw [HLo.out, if_neg (by omega)]
          go_wp2
          go_ret3
          exact ⟨HB8.out, by rw [HLd.out]; exact ⟨_, _, _, _, _, rfl, HM8.out, HR.out⟩⟩
        · rw [if_neg hk5]
          have HLd : Hid (Lo = none) := by show _ = _; rw [HLo.out, if_pos (by omega)]
          go_wp2
          go_ret3
          exact ⟨HB8.out, by rw [HLd.out]; exact ⟨_, _, rfl⟩⟩

end Go.Proofs.YtdjmjhlbjcgoiaaGreatDoor

/- The document's laid of layer 12: an application, and any right row. -/
namespace Go.Proofs.YtdjmjhlbjcgoiaaGreatDoor
open Go.RowKit Go.Maps Go.BigFrame

theorem laidO_ch {sig : List Sy} {l : List Ip} (hin : inE sig l = 0) (hL : ∀ x ∈ l, ∀ m ∈ x.2, Lim m.1) {vs u : List Int} (hu : rowE sig u = 0) {p : List Mn} (h : laidO sig l vs u = some p) : Ch p := by
  have ha := sigE_ok (inE_ok hin).1
  by_cases hf : u.any (farB vs) = true
  · rw [laidO_far hf] at h; cases h
  · have hf2 : u.any (farB vs) = false := by simpa using hf
    rcases ofS_one (sp := spol l) (vp := vCo vs) ha hu with h3 | ⟨q, h3⟩
    · rw [laidO_none h3] at h; cases h
    · rw [laidO_some hf2 h3] at h
      cases h
      refine ofS_ch (sp := spol l) (vp := vCo vs) ha (fun c h0 h1 => (in_spol hin hL h0 h1).2) u [] (row_first.1 hu) (fun c hc h0 => ?_) _ h3 p (by simp)
      rw [List.any_eq_false] at hf2
      have := hf2 c hc
      unfold farB at this
      simp only [Bool.and_eq_true, decide_eq_true_eq, not_and] at this
      exact vpol_ch (by have := this h0; omega)

set_option maxRecDepth 100000 in
set_option maxHeartbeats 6400000 in
theorem laidApp_any {sig : List Sy} {l : List Ip} {vs : List Int} {C : Nat} {us : List (List Int)} (hin : inE sig l = 0) (hL : ∀ x ∈ l, ∀ m ∈ x.2, Lim m.1) (hcs : C < sig.length) (hul : us.length = arN sig (C : Int)) (hur : ∀ u ∈ us, rowE sig u = 0) (hus : us.length ≤ 1048576) (ih : ∀ u ∈ us, LdC sig l vs u) : LdC sig l vs ((C : Int) :: us.flatten) := by
  intro A w0 w sv lv vv ta cap T z hA hB0 hs hl hv hTe ht
  have ha := sigE_ok (inE_ok hin).1
  obtain ⟨so, sc, rfl, _, _, _⟩ := Row.flat hs
  have hTl : 0 < T.length := by rw [hTe]; simp
  obtain ⟨gt, ot, c', rfl, ht0, htc, hb1, hb2⟩ := ht.at hTl
  obtain ⟨Z, hZ⟩ : ∃ Z, Z = us.flatten ++ z := ⟨_, rfl⟩
  have hT1 : Hid (T.drop 1 = Z) := by show _ = _; rw [hTe, hZ]; rfl
  obtain rfl : c' = (C : Int) := by rw [hTe] at ht0; simpa using ht0.symm
  rw [Nat.add_zero] at htc
  have htc := (Kp.of_below hB0).cell _ _ htc
  obtain ⟨_, capT, hv9, hto, htm, _⟩ := Row.flat ht
  simp only [Value.slice.injEq, true_and] at hv9
  obtain ⟨rfl, rfl⟩ := hv9
  unfold maxLen at htm
  have HS := hid hs
  have HL := hid hl
  have HV := hid hv
  have HT := hid ht
  have HA := hid hA
  have HI := hid ih
  have HB0 := hid hB0
  have HUr := hid hur
  have HZ0 : Hid (Z = us.flatten ++ z) := hid hZ
  have hcd : decide ((C : Int) < 0) = false := by simp
  have HAp : Hid (∀ ps : List (List Mn), us.length = ps.length → (∀ (i : Nat) u p, us[i]? = some u → ps[i]? = some p → laidO sig l vs u = some p) → laidO sig l vs ((C : Int) :: us.flatten) = if compE (spol l (C : Int)) ps = 0 then some (compL (spol l (C : Int)) ps) else none) := fun ps h1 h2 => laidO_app ha (by omega) hul hur h1 h2
  have HBad : Hid (∀ u ∈ us, laidO sig l vs u = none → laidO sig l vs ((C : Int) :: us.flatten) = none) := fun u hu h => laidO_bad ha hur hu h
  have HCh : Hid (∀ u ∈ us, ∀ p, laidO sig l vs u = some p → Ch p) := fun u hu p h => laidO_ch hin hL (hur u hu) h
  have HLs : Hid (∀ m ∈ spol l (C : Int), m.2.length ≤ 4611686018427387904) := fun m hm => by
    have := ((in_spol hin hL (c := (C : Int)) (by omega) (by simpa using hcs)).2.1.lens).2 m hm
    omega
  generalize hLo : laidO sig l vs ((C : Int) :: us.flatten) = Lo at HAp HBad
  obtain ⟨gs, os, sn, ar, rfl, hsm, hsn, hsa, _, _, _⟩ := hs.at hcs
  obtain rfl : ar = (us.length : Int) := by
    rw [hul]
    unfold arN
    rw [Int.toNat_natCast, hsm]
    have := ha _ (List.mem_of_getElem? hsm)
    simp only at this ⊢
    omega
  clear hl hv ht hTe ht0 hA ih hur hZ hs hsm hsn hul hL hin hB0
  go_enter Tryz.func48, Tryz.ntmps48
  go_upto_region 1 with fail
  have hTz : T.length - 1 = Z.length := by have := congrArg List.length hT1.out; rw [List.length_drop] at this; exact this
  go_cut [11] from 22 to 23 (fun x wx => (∃ ra m rc, x = .slice ra m rc ∧ m = Z.length ∧ Is w0 (.slice ra m rc) Z) ∧ wx = w)
  case first =>
    have h9 := is_tail12 HT.out (y := 1) (by omega) hto
    rw [hT1.out] at h9
    have HTz := hid hTz
    clear hTz
    by_cases h1 : cap = 1
    · rw [if_pos h1] at h9
      subst h1
      have h0 : T.length - 1 = 0 := by omega
      have H0 := hid h0
      have H9 := hid h9
      clear h9 h0
      go_wp2
      go_meet
      case rel => exact ⟨⟨_, _, _, rfl, by rw [← HTz.out, H0.out], by have h8 := H9.out; rw [H0.out] at h8; exact h8⟩, by trivial⟩
    · rw [if_neg h1] at h9
      have H9 := hid h9
      clear h9
      go_wp2
      go_meet
      case rel => exact ⟨⟨_, _, _, rfl, HTz.out, H9.out⟩, by trivial⟩
  obtain ⟨⟨ra, m, rc, rfl, rfl, hr⟩, hwx⟩ := hcut
  have hwx' := hwx.symm
  subst hwx'
  clear hwx hTz
  have HR := hid hr
  clear hr
  have HN0 := hid (RP12.new A w)
  obtain ⟨w2, hw2⟩ : ∃ X, X = w.alloc (.cells #[] 31) := ⟨_, rfl⟩
  rw [← hw2] at HN0
  go_wp2
  rw [← hw2]
  clear hw2
  go_loopw [11, 15, 16] (fun r a i wr => ∃ (j : Nat) (vals : List Value) (ps : List (List Mn)), j ≤ us.length ∧ i = .int .i64 j ∧ RP12 A w wr a vals ps ∧ ps.length = j ∧ (∀ (q : Nat) u p, us[q]? = some u → ps[q]? = some p → laidO sig l vs u = some p) ∧ ∃ ra rc Y, r = .slice ra Y.length rc ∧ Y = (us.drop j).flatten ++ z ∧ Is w0 (.slice ra Y.length rc) Y) (fun _ _ i _ => us.length - (intOf i).toNat)
  case atStart => exact ⟨0, [], [], Nat.zero_le _, rfl, HN0.out, rfl, fun q u p _ h => by simp at h, ra, rc, Z, rfl, by rw [List.drop_zero]; exact HZ0.out, HR.out⟩
  case round =>
    clear HN0 HR HZ0 hT1
    obtain ⟨j, vals, ps, hj, rfl, hrp, hpl, hpa, ra2, rc2, Y, rfl, hY, hri⟩ := hrel
    subst hpl
    have HY := hid hY
    clear hY
    have HRP := hid hrp
    have HPa := hid hpa
    have HRI := hid hri
    have HB := hid hrp.bel
    obtain ⟨aa, ac, rfl, hac1, hac2⟩ := hrp.shape
    unfold maxLen at hac2
    have htc2 := (Kp.of_below hrp.bel).cell _ _ htc
    have hsa2 := (Kp.of_below hrp.bel).cell _ _ hsa
    clear hrp hpa hri
    by_cases hlt : ps.length < us.length
    · as_aux_lemma =>
        obtain ⟨u, hu⟩ : ∃ u, us[ps.length]? = some u := ⟨_, List.getElem?_eq_getElem hlt⟩
        have hum := List.mem_of_getElem? hu
        have hdj : decide ((ps.length : Int) < (us.length : Int)) = true := by simpa using hlt
        have hwj : IntKind.i64.wrap ((ps.length : Int) + 1) = ((ps.length + 1 : Nat) : Int) := by rw [IntWalk.i64_in _ ⟨by omega, by omega⟩]; omega
        obtain ⟨Y2, hY2⟩ : ∃ Y2, Y2 = (us.drop (ps.length + 1)).flatten ++ z := ⟨_, rfl⟩
        have hTj : Y = u ++ Y2 := by rw [HY.out, hY2, drop_get hu, List.flatten_cons, List.append_assoc]
        have HY2 := hid hY2
        clear hY2
        have hcall := HI.out u hum (noB A (.slice aa ps.length ac)) w0 wr (.slice (some ⟨gs, os, none⟩) sig.length sc) lv vv ra2 rc2 Y Y2 (fun g hg => by
          unfold noB
          rw [Bool.and_eq_true, decide_eq_true_eq]
          refine ⟨HA.out g (Nat.le_trans HB.out.size hg), fun e => ?_⟩
          have := own_blk_lt HRP.out.row e
          omega) (below_step HB0.out HB.out) (HS.out.kp (Kp.of_below HB.out)) (HL.out.kp (only_to HB.out.size fun g hg hAg => by
          refine ⟨?_, HB.out.block g hg⟩
          unfold noB
          rw [Bool.and_eq_true, decide_eq_true_eq]
          refine ⟨hAg, fun e => ?_⟩
          have := own_blk HRP.out.row e
          omega)) (HV.out.kp (Kp.of_below HB.out)) hTj HRI.out
        have HC := hid hcall
        have HUm := hid hum
        have HUj := hid hu
        clear hcall hTj hum hu
        go_wp2_with fail
        refine HC.out.mono ?_
        rintro e w5 ⟨hb5, hld⟩
        clear HC
        cases hlo : laidO sig l vs u with
        | none =>
          as_aux_lemma =>
            rw [hlo] at hld
            obtain ⟨a, b, rfl⟩ := hld
            have HN := hid (HBad.out u HUm.out hlo)
            have HB5 := hid (below_step HB.out hb5)
            clear hlo hb5 HRP
            go_wp2
            go_ret3
            exact ⟨HB5.out, by rw [HN.out]; exact ⟨_, _, rfl⟩⟩
        | some p =>
          as_aux_lemma =>
            rw [hlo] at hld
            obtain ⟨pa, pn, pc, ra3, rc3, rfl, hms, his⟩ := hld
            obtain ⟨v6, w6, hr6, hrp6⟩ := (HRP.out.later hb5).push 49 hms (by omega)
            have HR6 := hid hr6
            have HRP6 := hid hrp6
            have HPa6 : Hid (∀ (q : Nat) u' p', us[q]? = some u' → (ps ++ [p])[q]? = some p' → laidO sig l vs u' = some p') := fun q u' p' h1 h2 => by
              by_cases hq : q < ps.length
              · rw [List.getElem?_append_left hq] at h2
                exact HPa.out q u' p' h1 h2
              · rw [List.getElem?_append_right (by omega)] at h2
                have hq0 : q - ps.length = 0 := by
                  have := (List.getElem?_eq_some_iff.1 h2).1
                  simp at this
                  omega
                have hqj : q = ps.length := by omega
                subst hqj
                rw [hq0] at h2
                simp at h2
                subst h2
                rw [HUj.out] at h1
                cases h1
                exact hlo
            have HI6 := hid his
            clear hr6 hrp6 hms his hlo hb5 HRP HPa
            go_wp2_with (first
              | (at_builtin; refine wpList_append_run rfl _ _ _ rfl _ _ rfl rfl HR6.out ?_))
            go_roundw
            case rel => exact ⟨ps.length + 1, _, _, hlt, by go_num, HRP6.out, by rw [List.length_append]; rfl, HPa6.out, _, _, Y2, rfl, HY2.out, HI6.out⟩
            case measure => simp only [intOf]; omega
    · as_aux_lemma =>
        have hje : ps.length = us.length := by omega
        have hdj : decide ((ps.length : Int) < (us.length : Int)) = false := by rw [hje]; simp
        obtain rfl : Y = z := by rw [HY.out, hje, List.drop_length, List.flatten_nil, List.nil_append]
        have HJe := hid hje
        clear hje
        have HIz := HRI
        have HLA := hid (HAp.out ps HJe.out.symm HPa.out)
        have HLw := hid (HL.out.kp (only_below HB.out))
        have HPs := hid (HRP.out.ps HA.out)
        have HAw : Hid (∀ g, wr.heap.size ≤ g → A g = true) := fun g hg => HA.out g (Nat.le_trans HB.out.size hg)
        have HLp : Hid (∀ f ∈ ps, ∀ m ∈ f, m.2.length ≤ 4611686018427387904) := fun f hf m hm => by
          obtain ⟨i, hi⟩ := List.getElem?_of_mem hf
          have hil := (List.getElem?_eq_some_iff.1 hi).1
          have hu : us[i]? = some (us[i]'(by have := HJe.out; omega)) := List.getElem?_eq_getElem _
          have := ((HCh.out _ (List.mem_of_getElem? hu) f (HPa.out i _ f hu hi)).lens).2 m hm
          omega
        clear HPa HRI HAp HBad HI HL HRP
        go_wp2_with fail
        refine (refSymA_any A lv l (C : Int) wr HLw.out).mono ?_
        rintro e w5 ⟨v5, rfl, hm5, hw5⟩
        have hw6 := hw5.symm
        subst hw6
        clear hw5
        have HM5 := hid hm5
        clear hm5
        go_wp2_with fail
        refine (refCompose_any A v5 _ (spol l (C : Int)) ps wr HM5.out HPs.out HAw.out HLs.out HLp.out).mono ?_
        rintro e w7 ⟨v7, rfl, hm7, hb7⟩
        obtain ⟨pa, pn, pc, rfl⟩ := hm7.shape
        have HM7 := hid hm7
        have HB7 := hid (below_step HB.out hb7)
        clear hm7 hb7
        by_cases h0 : compE (spol l (C : Int)) ps = 0
        · have hd0 : (compE (spol l (C : Int)) ps == 0) = true := by simpa using h0
          have HLd : Hid (Lo = some (compL (spol l (C : Int)) ps)) := by show _ = _; rw [HLA.out, if_pos h0]
          clear h0 HLA
          go_wp2
          go_ret3
          exact ⟨HB7.out, by rw [HLd.out]; exact ⟨_, _, _, _, _, rfl, HM7.out, HIz.out⟩⟩
        · have hd0 : (compE (spol l (C : Int)) ps == 0) = false := by simpa using h0
          have HLd : Hid (Lo = none) := by show _ = _; rw [HLA.out, if_neg h0]
          clear h0 HLA
          go_wp2
          go_ret3
          exact ⟨HB7.out, by rw [HLd.out]; exact ⟨_, _, rfl⟩⟩

/-- A right row whose variables are numbered. -/
theorem refLaid12_any {sig : List Sy} {l : List Ip} {vs : List Int} (hin : inE sig l = 0) (hL : ∀ x ∈ l, ∀ m ∈ x.2, Lim m.1) (hvl : vs.length ≤ 17592186043904) : ∀ (N : Nat) (u : List Int), u.length ≤ N → rowE sig u = 0 → (∀ c ∈ u, c < 0 → c ∈ vs) → LdC sig l vs u
  | 0, u, hN, hu, _ => by
    obtain rfl := List.eq_nil_of_length_eq_zero (by omega : u.length = 0)
    exact absurd (row_first.1 hu) (by simp [firstT])
  | N + 1, [], _, hu, _ => absurd (row_first.1 hu) (by simp [firstT])
  | N + 1, c :: r, hN, hu, hm => by
    have ha := sigE_ok (inE_ok hin).1
    by_cases hc : c < 0
    · obtain rfl := var12 hu hc
      exact laidVar_any hc (hm c (by simp) hc) hvl
    · obtain ⟨h1, us, h2, rfl, h3⟩ := kids12 ha hu hc
      obtain ⟨C, rfl⟩ : ∃ C : Nat, c = (C : Int) := ⟨c.toNat, by omega⟩
      refine laidApp_any hin hL (by simpa using h1) h2 h3 ?_ fun u hum => ?_
      · rw [h2]
        unfold arN
        cases hsx : sig[(C : Int).toNat]? with
        | none => simp
        | some s =>
          have := ha s (List.mem_of_getElem? hsx)
          simp only
          omega
      · have hsub : ∀ x ∈ u, x ∈ us.flatten := fun x hx => List.mem_flatten.2 ⟨u, hum, hx⟩
        have hle := (List.sublist_flatten_of_mem hum).length_le
        rw [List.length_cons] at hN
        exact refLaid12_any hin hL hvl N u (by omega) (h3 u hum) fun x hx h0 => hm x (List.mem_cons_of_mem _ (hsub x hx)) h0

end Go.Proofs.YtdjmjhlbjcgoiaaGreatDoor

/- The document's Of of layer 12. -/
namespace Go.Proofs.YtdjmjhlbjcgoiaaGreatDoor
open Go.RowKit Go.Maps Go.BigFrame

set_option maxRecDepth 100000 in
set_option maxHeartbeats 3200000 in
theorem refOf12_any (A : Nat → Bool) (sv lv tv : Value) (sig : List Sy) (l : List Ip) (t : List Int) (w : World) (hA : ∀ g, w.heap.size ≤ g → A g = true) (hs : Sg w sv sig) (hl : Ins (onlyY A w) lv l) (ht : Is w tv t) (hb : t.length * 24 ≤ 140737488351232) :
    Calls Tryz.prog 17 #[sv, lv, tv] w fun e w' => (∃ v', e = .returned (.tuple #[v', .int .i64 (ofPE sig l t)]) ∧ Ms (onlyY A w') v' (ofPL sig l t)) ∧ Below w.heap.size w w' := by
  obtain ⟨tq, tc, rfl, _, _, _⟩ := Row.flat ht
  have hlim := (hl.kp (only_kp A w)).lim
  have HA := hid hA
  have HS := hid hs
  have HL := hid hl
  have HLw := hid (hl.kp (only_kp A w))
  have HT := hid ht
  clear hs hl ht hA
  go_enter Tryz.func17, Tryz.ntmps17
  go_wp2_with fail
  refine (refCheck12_any _ _ sig l w HS.out HLw.out).mono ?_
  rintro e w1 ⟨rfl, hb1⟩
  have B1 := hid hb1
  clear hb1
  by_cases hin : inE sig l = 0
  · have hd0 : (inE sig l != 0) = false := by simpa using hin
    go_wp2_with fail
    refine (refCheck_any _ _ sig t w1 (HS.out.kp (Kp.of_below B1.out)) (HT.out.kp (Kp.of_below B1.out)) (by omega)).mono ?_
    rintro e w2 ⟨rfl, hb2⟩
    have B2 := hid (below_step B1.out hb2)
    clear hb2
    by_cases htt : termE sig t = 0
    · have hd1 : (termE sig t != 0) = false := by simpa using htt
      have hrt := (term_parts htt).2
      have har := sigE_ok (inE_ok hin).1
      have HLo := hid (laid_of har (l := l) hrt)
      obtain ⟨vs, hvs⟩ : ∃ vs, vs = metA [] t := ⟨_, rfl⟩
      rw [← hvs] at HLo
      have hvl : vs.length ≤ t.length := by
        have h2 := metA_len t []
        rw [hvs]
        simpa using h2
      have hmt : ∀ c ∈ t, c < 0 → c ∈ vs := fun c hc h0 => by rw [hvs]; exact (metA_mem t [] c).2 (.inr ⟨hc, h0⟩)
      have HLt := hid (refLaid12_any hin hlim (by omega) t.length t (Nat.le_refl _) hrt hmt)
      have HE : Hid (ofPE sig l t = ovE (ofV sig l (varsL t) t)) := by show _ = _; unfold ofPE; rw [if_pos hin, if_pos htt]
      have HP : Hid (ofPL sig l t = ovL (ofV sig l (varsL t) t)) := by show _ = _; unfold ofPL; rw [if_pos ⟨hin, htt⟩]
      rw [← HLo.out] at HE HP
      have HVs := hid hvs
      clear hvs hmt har hrt HLo
      go_wp2_with fail
      refine (refMet12_any (.slice none 0 0) _ [] t w2 w2 ⟨fun k x hk => by simp at hk, rfl, .inl ⟨rfl, rfl⟩⟩ (HT.out.kp (Kp.of_below B2.out)) (Below.refl _ _) (by simp; omega)).mono ?_
      rintro e w3 ⟨v3, rfl, ho3, hb3⟩
      rw [← HVs.out] at ho3
      obtain ⟨vo, vc, rfl, _⟩ := ho3.shape
      have HV3 := hid ho3.is
      have B3 := hid (below_step B2.out hb3)
      clear ho3 hb3
      have HC4 := hid (HLt.out A w w3 _ lv _ tq tc t [] (fun g hg => HA.out g (Nat.le_trans B3.out.size hg)) B3.out (HS.out.kp (Kp.of_below B3.out)) (HL.out.kp (only_below B3.out)) HV3.out (by simp) HT.out)
      go_wp2_with fail
      refine HC4.out.mono ?_
      rintro e w4 ⟨hb4, hld⟩
      clear HC4 HLt
      have B4 := hid (below_step B3.out hb4)
      clear hb4
      cases hlo : laidO sig l vs t with
      | none =>
        as_aux_lemma =>
          rw [hlo] at hld HE HP
          obtain ⟨x, y, rfl⟩ := hld
          clear hlo
          go_wp2
          go_ret2
          exact ⟨⟨_, by rw [HE.out]; rfl, by rw [HP.out]; exact Row.nil (by simp [maxLen])⟩, B4.out⟩
      | some p =>
        as_aux_lemma =>
          rw [hlo] at hld HE HP
          obtain ⟨pa, pn, pc, ra, rc, rfl, hms, _⟩ := hld
          have HM := hid hms
          clear hlo hms
          go_wp2
          go_ret2
          exact ⟨⟨_, by rw [HE.out]; rfl, by rw [HP.out]; exact HM.out⟩, B4.out⟩
    · have hd1 : (termE sig t != 0) = true := by simpa using htt
      have HE : Hid (ofPE sig l t = termE sig t) := by show _ = _; unfold ofPE; rw [if_pos hin, if_neg htt]
      have HP : Hid (ofPL sig l t = []) := by show _ = _; unfold ofPL; rw [if_neg (fun h => htt h.2)]
      go_wp2
      go_ret2
      exact ⟨⟨_, by rw [HE.out]; rfl, by rw [HP.out]; exact Row.nil (by simp [maxLen])⟩, B2.out⟩
  · have hd0 : (inE sig l != 0) = true := by simpa using hin
    have HE : Hid (ofPE sig l t = inE sig l) := by show _ = _; unfold ofPE; rw [if_neg hin]
    have HP : Hid (ofPL sig l t = []) := by show _ = _; unfold ofPL; rw [if_neg (fun h => hin h.1)]
    go_wp2
    go_ret2
    exact ⟨⟨_, by rw [HE.out]; rfl, by rw [HP.out]; exact Row.nil (by simp [maxLen])⟩, B1.out⟩

end Go.Proofs.YtdjmjhlbjcgoiaaGreatDoor
