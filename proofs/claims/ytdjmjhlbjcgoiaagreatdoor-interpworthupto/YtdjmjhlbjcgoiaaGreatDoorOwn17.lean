/- Texts of the proof, one behind the other. -/
import Derived.Test.YtdjmjhlbjcgoiaaGreatDoorOwn16
import Derived.Test.YtdjmjhlbjcgoiaaGreatDoorOwn11
/- A row of naturals of one's own that alias others. -/
namespace Go.Proofs.YtdjmjhlbjcgoiaaGreatDoor
open Go.RowKit Go.Maps Go.BigFrame

/-- A row of naturals of one's own; each is read outside of the row's block. -/
structure RV12 (A : Nat → Bool) (w0 w : World) (v : Value) (vs : List Value) (ps : List (List Nat)) : Prop where
  bel : Below w0.heap.size w0 w
  row : w.ownsRow w0.heap.size 35 1 v ps.length vs
  len : vs.length = ps.length
  ms : ∀ (j : Nat) (u : Value) (p : List Nat), vs[j]? = some u → ps[j]? = some p → Sl (onlyY (noB A v) w) u p

theorem RV12.later {A : Nat → Bool} {w0 w w' : World} {v : Value} {vs : List Value} {ps : List (List Nat)} (h : RV12 A w0 w v vs ps) (hb : Below w.heap.size w w') : RV12 A w0 w' v vs ps :=
  ⟨below_step h.bel hb, ownsRow_later h.row hb, h.len, fun j u p h1 h2 => (h.ms j u p h1 h2).kp (only_below hb)⟩

theorem RV12.new (A : Nat → Bool) (w : World) : RV12 A w (w.alloc (.cells #[] 35)) (.slice (some ⟨w.heap.size, 0, none⟩) 0 0) [] [] :=
  ⟨below_alloc _, empty_row _ (Nat.le_refl _), rfl, fun j u p h => by simp at h⟩

theorem RV12.shape {A : Nat → Bool} {w0 w : World} {v : Value} {vs : List Value} {ps : List (List Nat)} (h : RV12 A w0 w v vs ps) : ∃ ao c, v = .slice ao ps.length c ∧ ps.length ≤ c ∧ c ≤ maxLen := by
  rcases h.row.2 with ⟨rfl, h0⟩ | ⟨g, cap, cur, rfl, _, _, hc, hm, _⟩
  · exact ⟨none, 0, by rw [h0], by omega, by simp [maxLen]⟩
  · exact ⟨_, cap, rfl, hc, hm⟩

theorem info_val12 : (Tryz.prog.info? 35).map (fun i => (i.zero, i.size, i.bytes)) = some (some (.slice none 0 0), 1, 24) := by kernel_rfl

theorem under_vals12 : Tryz.prog.underlying 54 = some (.slice 35) := by kernel_rfl

/-- A natural more. -/
theorem RV12.push (ty : TypeId) {A : Nat → Bool} {w0 w : World} {v : Value} {vs : List Value} {ps : List (List Nat)} {ua : Option Addr} {un uc : Nat} {p : List Nat} (h : RV12 A w0 w v vs ps) (hu : Sl (onlyY (noB A v) w) (.slice ua un uc) p) (hl : (ps.length + 1) * 24 ≤ 140737488355328) :
    ∃ v' w', (Builtin.append_ #[54, 54] ty #[v, .slice (some ⟨w.heap.size, 0, none⟩) 1 1]).run Tryz.prog (w.alloc (.cells #[.slice ua un uc] 35)) = .ok v' w' ∧ RV12 A w0 w' v' (vs ++ [.slice ua un uc]) (ps ++ [p]) := by
  obtain ⟨i0, hi, hz0, hz1, hz2⟩ := info_parts info_val12
  obtain ⟨w2, hw2⟩ : ∃ X, X = w.alloc (.cells #[.slice ua un uc] 35) := ⟨_, rfl⟩
  have hb2 : Below w.heap.size w w2 := by rw [hw2]; exact below_alloc _
  have hc2 : w2.cell? ⟨w.heap.size, 0, none⟩ = some (.slice ua un uc) := by rw [hw2]; exact cell_new rfl
  have h2 := h.later hb2
  obtain ⟨v', w', hr, ho, hg, _, hv⟩ := run_append_own_at (P := Tryz.prog) w2 w0.heap.size 54 ty 35 i0 _ 1 24 under_vals12 hi hz0 hz1 hz2 rfl (by decide) v ps.length vs h2.row ⟨w.heap.size, 0, none⟩ 1 1 [.slice ua un uc] rfl
    (fun j y hj => by
      rw [Addr.add_lit, Nat.zero_add]
      cases j with
      | zero => simp at hj; subst hj; exact hc2
      | succ j => simp at hj) (fun y hy => by simp at hy; subst hy; rfl) (by unfold maxLen; omega) (by omega) h2.bel.size
  have hk : Kp (onlyY (noB A v) w2) (onlyY (noB A v') w') := only_to hg.size fun g hgl hgA => by
    unfold noB at hgA ⊢
    rw [Bool.and_eq_true, decide_eq_true_eq] at hgA
    refine ⟨?_, hg.block g hgl (fun e => hgA.2 e.symm)⟩
    rw [Bool.and_eq_true, decide_eq_true_eq]
    refine ⟨hgA.1, ?_⟩
    rcases hv with hv | hv
    · rw [hv]; exact hgA.2
    · rw [hv]
      simp only [ne_eq, Option.some.injEq]
      omega
  rw [← hw2]
  refine ⟨v', w', hr, h2.bel.grown hg h2.bel.size (fun k hk => own_blk h2.row hk), by simpa using ho, by simp [h.len], fun j u q hj hq => ?_⟩
  by_cases hjl : j < vs.length
  · rw [List.getElem?_append_left hjl] at hj
    rw [List.getElem?_append_left (by rw [← h.len]; exact hjl)] at hq
    exact (h2.ms j u q hj hq).kp hk
  · rw [List.getElem?_append_right (by omega)] at hj
    rw [List.getElem?_append_right (by rw [← h.len]; omega), ← h.len] at hq
    have e0 : j - vs.length = 0 := by
      have := (List.getElem?_eq_some_iff.1 hj).1
      simp at this
      omega
    rw [e0] at hj hq
    simp at hj hq
    subst hj hq
    exact (hu.kp (only_below hb2)).kp hk

theorem RV12.ps {A : Nat → Bool} {w0 w : World} {v : Value} {vs : List Value} {ps : List (List Nat)} (h : RV12 A w0 w v vs ps) (hA : ∀ g, w0.heap.size ≤ g → A g = true) : RsY (onlyY A w) v ps := by
  have hr := only_owns h.row hA
  have hk : Kp (onlyY (noB A v) w) (onlyY A w) := only_to (Nat.le_refl _) fun g _ hg => by
    unfold noB at hg
    rw [Bool.and_eq_true] at hg
    exact ⟨hg.1, rfl⟩
  rcases hr.2 with ⟨rfl, hn⟩ | ⟨g, cap, cur, rfl, hb, hg, hc, hm, hs, ht⟩
  · obtain rfl := List.eq_nil_of_length_eq_zero hn
    exact Row.nil (by simp [maxLen])
  · refine ⟨_, cap, rfl, hc, hm, fun _ => ⟨g, 0, rfl, (Array.getElem?_eq_some_iff.1 hg).1, fun k t hk2 => ?_⟩⟩
    have hlt : k < ps.length := (List.getElem?_eq_some_iff.1 hk2).1
    obtain ⟨u, hu⟩ : ∃ u, vs[k]? = some u := ⟨_, List.getElem?_eq_getElem (by rw [h.len]; exact hlt)⟩
    refine ⟨u, ?_, (h.ms k u t hu hk2).kp hk⟩
    rw [Nat.zero_add, Nat.mul_one, World.ownsRow.cellAt hr k (by omega)]
    exact hu

theorem ow_only {A : Nat → Bool} {w : World} {base : Nat} {v : Value} {x : List Nat} (h : Ow w base v x) (hA : ∀ g, base ≤ g → A g = true) : Sl (onlyY A w) v x := Ow.sl (base := base) ⟨h.1, only_owns h.2 hA⟩

/-- What value leaves. -/
def VdO (o : Option (List Nat)) (z : List Int) (A : Nat → Bool) (w0 : World) (e : Ending) (w' : World) : Prop :=
  match o with
  | none => ∃ a b xs, e = .returned (.tuple #[a, b, .bool false]) ∧ Sl (onlyY A w') a xs
  | some x => ∃ xa xn xc ra rc, e = .returned (.tuple #[.slice xa xn xc, .slice ra z.length rc, .bool true]) ∧ Sl (onlyY A w') (.slice xa xn xc) x ∧ Is w0 (.slice ra z.length rc) z

def VdC (sig : List Sy) (l : List Ip) (ats : List (List Nat)) (u : List Int) : Prop :=
  ∀ (A : Nat → Bool) (w0 w : World) (sv lv av : Value) (ta : Option Addr) (cap : Nat) (T z : List Int), (∀ g, w.heap.size ≤ g → A g = true) → Below w0.heap.size w0 w → Sg w sv sig → Ins w lv l → RsY (onlyY A w) av ats → T = u ++ z → Is w0 (.slice ta T.length cap) T →
    Calls Tryz.prog 28 #[sv, lv, .slice ta T.length cap, av] w fun e w' => Below w.heap.size w w' ∧ VdO (valO sig l ats u) z A w0 e w'

theorem RsY.at12 {w : World} {ao : Option Addr} {n cap : Nat} {xs : List (List Nat)} (h : RsY w (.slice ao n cap) xs) {k : Nat} (hk : k < xs.length) :
    ∃ g off x a1 n1 c1, ao = some ⟨g, off, none⟩ ∧ xs[k]? = some x ∧ w.cell? ⟨g, off + k, none⟩ = some (.slice a1 n1 c1) ∧ Sl w (.slice a1 n1 c1) x := by
  obtain ⟨ao', cap', hv, _, _, hx⟩ := Row.flat h
  simp only [Value.slice.injEq] at hv
  obtain ⟨rfl, rfl, rfl⟩ := hv
  obtain ⟨g, off, x, rfl, hm, u, h1, h2⟩ := hx k hk
  obtain ⟨a1, c1, hu, _⟩ := h2.flat
  subst hu
  rw [Nat.mul_one] at h1
  exact ⟨g, off, x, a1, _, c1, rfl, hm, h1, h2⟩

set_option maxRecDepth 100000 in
set_option maxHeartbeats 6400000 in
theorem valVar_any {sig : List Sy} {l : List Ip} {ats : List (List Nat)} {c : Int} (hc : c < 0) : VdC sig l ats [c] := by
  intro A w0 w sv lv av ta cap T z hA hB0 hs hl hv hTe ht
  obtain ⟨va, vc, rfl, hvc1, hvc2, _⟩ := Row.flat hv
  unfold maxLen at hvc2
  have hTl : 0 < T.length := by rw [hTe]; simp
  obtain ⟨gt, ot, c', rfl, ht0, htc, hb1, hb2⟩ := ht.at hTl
  have hT1 : Hid (T.drop 1 = z) := by show _ = _; rw [hTe]; rfl
  obtain rfl : c' = c := by rw [hTe] at ht0; simpa using ht0.symm
  rw [Nat.add_zero] at htc
  have htc := (Kp.of_below hB0).cell _ _ htc
  obtain ⟨_, capT, hv9, hto, htm, _⟩ := Row.flat ht
  simp only [Value.slice.injEq, true_and] at hv9
  obtain ⟨rfl, rfl⟩ := hv9
  unfold maxLen at htm
  have HV := hid hv
  have HT := hid ht
  have HA := hid hA
  have hcd : decide (c' < 0) = true := by simpa using hc
  have HLo : Hid (valO sig l ats [c'] = some (atV ats c')) := valO_var hc
  generalize valO sig l ats [c'] = Lo at HLo
  clear hs hl hv ht hTe ht0 hA hB0
  go_enter Tryz.func28, Tryz.ntmps28
  go_upto_region 1 with fail
  have hTz : T.length - 1 = z.length := by have := congrArg List.length hT1.out; rw [List.length_drop] at this; exact this
  go_cut [11] from 20 to 21 (fun x wx => (∃ ra m rc, x = .slice ra m rc ∧ m = z.length ∧ Is w0 (.slice ra m rc) z) ∧ wx = w)
  case first =>
    have h9 := is_tail12 HT.out (y := 1) (by omega) hto
    rw [hT1.out] at h9
    have HTz := hid hTz
    clear hTz
    by_cases h1 : cap = 1
    · rw [if_pos h1] at h9
      subst h1
      have h0 : T.length - 1 = 0 := by omega
      have H0 := hid h0
      have H9 := hid h9
      clear h9 h0
      go_wp2
      go_meet
      case rel => exact ⟨⟨_, _, _, rfl, by rw [← HTz.out, H0.out], by have h8 := H9.out; rw [H0.out] at h8; exact h8⟩, by trivial⟩
    · rw [if_neg h1] at h9
      have H9 := hid h9
      clear h9
      go_wp2
      go_meet
      case rel => exact ⟨⟨_, _, _, rfl, HTz.out, H9.out⟩, by trivial⟩
  obtain ⟨⟨ra, m, rc, rfl, rfl, hr⟩, hwx⟩ := hcut
  have hwx' := hwx.symm
  subst hwx'
  clear hwx hTz
  have HR := hid hr
  clear hr
  by_cases h0 : ats.length = 0
  · have hz1 : ((ats.length : Int) == 0) = true := by simp [h0]
    have hz2 : (ats.length == 0) = true := by simp [h0]
    have HV0 : Hid (atV ats c' = []) := by show _ = _; unfold atV; rw [if_pos h0]
    have hb2 := below_alloc (w := w) (.cells #[] 38)
    have ho2 : Ow (w.alloc (.cells #[] 38)) w.heap.size (.slice (some ⟨w.heap.size, 0, none⟩) 0 0) [] := ⟨Lim.nil, empty_row _ (Nat.le_refl _)⟩
    obtain ⟨w2, hw2⟩ : ∃ X, X = w.alloc (.cells #[] 38) := ⟨_, rfl⟩
    rw [← hw2] at hb2 ho2
    have HB2 := hid hb2
    have HO2 := hid ho2
    clear hb2 ho2 h0
    go_wp2
    rw [← hw2]
    go_ret3
    exact ⟨HB2.out, by rw [HLo.out, HV0.out]; exact ⟨_, _, _, _, _, rfl, ow_only HO2.out HA.out, HR.out⟩⟩
  · have hz1 : ((ats.length : Int) == 0) = false := by simp; exact List.ne_nil_of_length_pos (by omega)
    have hz2 : (ats.length == 0) = false := by simpa using h0
    obtain ⟨N, hN⟩ : ∃ N : Nat, (N : Int) = -1 - c' := ⟨(-1 - c').toNat, by omega⟩
    obtain ⟨K, hK⟩ : ∃ K, K = N % ats.length := ⟨_, rfl⟩
    have hKl : K < ats.length := by rw [hK]; exact Nat.mod_lt _ (by omega)
    have hw1 : IntKind.i64.wrap (-1 - c') = (N : Int) := by rw [IntWalk.i64_in _ ⟨by omega, by omega⟩]; omega
    have hm1 : (N : Int).tmod (ats.length : Int) = (K : Int) := by rw [hK]; rfl
    have hm2 : N % ats.length = K := hK.symm
    have hwK : IntKind.i64.wrap (K : Int) = (K : Int) := IntWalk.i64_in _ ⟨by omega, by omega⟩
    have hnz : ¬ (ats.length : Int) = 0 := by omega
    obtain ⟨ga, oa, x, a1, n1, c1, rfl, hx, hxc, hxs⟩ := HV.out.at12 hKl
    have hxc := (only_kp A w).cell _ _ hxc
    have HX := hid hxs
    have HV0 : Hid (atV ats c' = x) := by
      show _ = _
      unfold atV
      rw [if_neg h0, show (-1 - c').toNat = N by omega, hm2, hx]
      rfl
    clear hxs hx h0 hK hN
    go_wp2
    go_ret3
    exact ⟨Below.refl _ _, by rw [HLo.out, HV0.out]; exact ⟨_, _, _, _, _, rfl, HX.out, HR.out⟩⟩

end Go.Proofs.YtdjmjhlbjcgoiaaGreatDoor

/- What a term is worth, from the leaves up: an application, and any right row. -/
namespace Go.Proofs.YtdjmjhlbjcgoiaaGreatDoor
open Go.RowKit Go.Maps Go.BigFrame

set_option maxRecDepth 100000 in
set_option maxHeartbeats 6400000 in
theorem valApp_any {sig : List Sy} {l : List Ip} {ats : List (List Nat)} {C : Nat} {us : List (List Int)} (hin : inE sig l = 0) (hL : ∀ x ∈ l, ∀ m ∈ x.2, Lim m.1) (hcs : C < sig.length) (hul : us.length = arN sig (C : Int)) (hur : ∀ u ∈ us, rowE sig u = 0) (hus : us.length ≤ 1048576) (ih : ∀ u ∈ us, VdC sig l ats u) : VdC sig l ats ((C : Int) :: us.flatten) := by
  intro A w0 w sv lv av ta cap T z hA hB0 hs hl hv hTe ht
  have ha := sigE_ok (inE_ok hin).1
  obtain ⟨so, sc, rfl, _, _, _⟩ := Row.flat hs
  obtain ⟨lo, lc, rfl, _, hlcm, _⟩ := Row.flat hl
  unfold maxLen at hlcm
  have hTl : 0 < T.length := by rw [hTe]; simp
  obtain ⟨gt, ot, c', rfl, ht0, htc, hb1, hb2⟩ := ht.at hTl
  obtain ⟨Z, hZ⟩ : ∃ Z, Z = us.flatten ++ z := ⟨_, rfl⟩
  have hT1 : Hid (T.drop 1 = Z) := by show _ = _; rw [hTe, hZ]; rfl
  obtain rfl : c' = (C : Int) := by rw [hTe] at ht0; simpa using ht0.symm
  rw [Nat.add_zero] at htc
  have htc := (Kp.of_below hB0).cell _ _ htc
  obtain ⟨_, capT, hv9, hto, htm, _⟩ := Row.flat ht
  simp only [Value.slice.injEq, true_and] at hv9
  obtain ⟨rfl, rfl⟩ := hv9
  unfold maxLen at htm
  have HS := hid hs
  have HL := hid hl
  have HV := hid hv
  have HT := hid ht
  have HA := hid hA
  have HI := hid ih
  have HB0 := hid hB0
  have HUr := hid hur
  have HZ0 : Hid (Z = us.flatten ++ z) := hid hZ
  have hcd : decide ((C : Int) < 0) = false := by simp
  have HAp : Hid (∀ ps : List (List Nat), us.length = ps.length → (∀ (i : Nat) u p, us[i]? = some u → ps[i]? = some p → valO sig l ats u = some p) → valO sig l ats ((C : Int) :: us.flatten) = if valE (spol l (C : Int)) ps = 0 then some (valL (spol l (C : Int)) ps) else none) := fun ps h1 h2 => valO_app ha (by omega) hul hur h1 h2
  have HBad : Hid (∀ u ∈ us, valO sig l ats u = none → valO sig l ats ((C : Int) :: us.flatten) = none) := fun u hu h => valO_bad ha hur hu h
  have HSp : Hid (∀ (k : Nat) (a : Int) (q : List Mn), l[k]? = some (a, q) → a = (C : Int) → q = spol l (C : Int)) := fun k a q hk ha => by
    subst ha
    exact (spol_of (in_nodup hin) (List.mem_of_getElem? hk)).symm
  have HMem : Hid (∃ q : Nat, l[q]? = some ((C : Int), spol l (C : Int))) := List.getElem?_of_mem (in_spol hin hL (c := (C : Int)) (by omega) (by simpa using hcs)).1
  generalize hLo : valO sig l ats ((C : Int) :: us.flatten) = Lo at HAp HBad
  obtain ⟨gs, os, sn, ar, rfl, hsm, hsn, hsa, _, _, _⟩ := hs.at hcs
  obtain rfl : ar = (us.length : Int) := by
    rw [hul]
    unfold arN
    rw [Int.toNat_natCast, hsm]
    have := ha _ (List.mem_of_getElem? hsm)
    simp only at this ⊢
    omega
  clear hl hv ht hTe ht0 hA ih hur hZ hs hsm hsn hul hL hin hB0
  go_enter Tryz.func28, Tryz.ntmps28
  go_upto_region 1 with fail
  have hTz : T.length - 1 = Z.length := by have := congrArg List.length hT1.out; rw [List.length_drop] at this; exact this
  go_cut [11] from 20 to 21 (fun x wx => (∃ ra m rc, x = .slice ra m rc ∧ m = Z.length ∧ Is w0 (.slice ra m rc) Z) ∧ wx = w)
  case first =>
    have h9 := is_tail12 HT.out (y := 1) (by omega) hto
    rw [hT1.out] at h9
    have HTz := hid hTz
    clear hTz
    by_cases h1 : cap = 1
    · rw [if_pos h1] at h9
      subst h1
      have h0 : T.length - 1 = 0 := by omega
      have H0 := hid h0
      have H9 := hid h9
      clear h9 h0
      go_wp2
      go_meet
      case rel => exact ⟨⟨_, _, _, rfl, by rw [← HTz.out, H0.out], by have h8 := H9.out; rw [H0.out] at h8; exact h8⟩, by trivial⟩
    · rw [if_neg h1] at h9
      have H9 := hid h9
      clear h9
      go_wp2
      go_meet
      case rel => exact ⟨⟨_, _, _, rfl, HTz.out, H9.out⟩, by trivial⟩
  obtain ⟨⟨ra, m, rc, rfl, rfl, hr⟩, hwx⟩ := hcut
  have hwx' := hwx.symm
  subst hwx'
  clear hwx hTz
  have HR := hid hr
  clear hr
  have HN0 := hid (RV12.new A w)
  obtain ⟨w2, hw2⟩ : ∃ X, X = w.alloc (.cells #[] 35) := ⟨_, rfl⟩
  rw [← hw2] at HN0
  go_wp2
  rw [← hw2]
  clear hw2
  go_loopw [11, 12, 13] (fun r a i wr => ∃ (j : Nat) (vals : List Value) (ps : List (List Nat)), j ≤ us.length ∧ i = .int .i64 j ∧ RV12 A w wr a vals ps ∧ ps.length = j ∧ (∀ (q : Nat) u p, us[q]? = some u → ps[q]? = some p → valO sig l ats u = some p) ∧ ∃ ra rc Y, r = .slice ra Y.length rc ∧ Y = (us.drop j).flatten ++ z ∧ Is w0 (.slice ra Y.length rc) Y) (fun _ _ i _ => us.length - (intOf i).toNat)
  case atStart => exact ⟨0, [], [], Nat.zero_le _, rfl, HN0.out, rfl, fun q u p _ h => by simp at h, ra, rc, Z, rfl, by rw [List.drop_zero]; exact HZ0.out, HR.out⟩
  case round =>
    clear HN0 HR HZ0 hT1
    obtain ⟨j, vals, ps, hj, rfl, hrp, hpl, hpa, ra2, rc2, Y, rfl, hY, hri⟩ := hrel
    subst hpl
    have HY := hid hY
    clear hY
    have HRP := hid hrp
    have HPa := hid hpa
    have HRI := hid hri
    have HB := hid hrp.bel
    obtain ⟨aa, ac, rfl, hac1, hac2⟩ := hrp.shape
    unfold maxLen at hac2
    have htc2 := (Kp.of_below hrp.bel).cell _ _ htc
    have hsa2 := (Kp.of_below hrp.bel).cell _ _ hsa
    clear hrp hpa hri
    by_cases hlt : ps.length < us.length
    · as_aux_lemma =>
        obtain ⟨u, hu⟩ : ∃ u, us[ps.length]? = some u := ⟨_, List.getElem?_eq_getElem hlt⟩
        have hum := List.mem_of_getElem? hu
        have hdj : decide ((ps.length : Int) < (us.length : Int)) = true := by simpa using hlt
        have hwj : IntKind.i64.wrap ((ps.length : Int) + 1) = ((ps.length + 1 : Nat) : Int) := by rw [IntWalk.i64_in _ ⟨by omega, by omega⟩]; omega
        obtain ⟨Y2, hY2⟩ : ∃ Y2, Y2 = (us.drop (ps.length + 1)).flatten ++ z := ⟨_, rfl⟩
        have hTj : Y = u ++ Y2 := by rw [HY.out, hY2, drop_get hu, List.flatten_cons, List.append_assoc]
        have HY2 := hid hY2
        clear hY2
        have hcall := HI.out u hum (noB A (.slice aa ps.length ac)) w0 wr (.slice (some ⟨gs, os, none⟩) sig.length sc) (.slice lo l.length lc) av ra2 rc2 Y Y2 (fun g hg => by
          unfold noB
          rw [Bool.and_eq_true, decide_eq_true_eq]
          refine ⟨HA.out g (Nat.le_trans HB.out.size hg), fun e => ?_⟩
          have := own_blk_lt HRP.out.row e
          omega) (below_step HB0.out HB.out) (HS.out.kp (Kp.of_below HB.out)) (HL.out.kp (Kp.of_below HB.out)) (HV.out.kp (only_to HB.out.size fun g hg hAg => by
          refine ⟨?_, HB.out.block g hg⟩
          unfold noB
          rw [Bool.and_eq_true, decide_eq_true_eq]
          refine ⟨hAg, fun e => ?_⟩
          have := own_blk HRP.out.row e
          omega)) hTj HRI.out
        have HC := hid hcall
        have HUm := hid hum
        have HUj := hid hu
        clear hcall hTj hum hu
        go_wp2_with fail
        refine HC.out.mono ?_
        rintro e w5 ⟨hb5, hld⟩
        clear HC
        cases hlo : valO sig l ats u with
        | none =>
          as_aux_lemma =>
            rw [hlo] at hld
            obtain ⟨a, b, xs8, rfl, _⟩ := hld
            have HN := hid (HBad.out u HUm.out hlo)
            have HB5 := hid (below_step HB.out hb5)
            clear hlo hb5 HRP
            go_wp2
            go_ret3
            exact ⟨HB5.out, by rw [HN.out]; exact ⟨_, _, [], rfl, Lim.nil, none, 0, rfl, Nat.le_refl _, by simp [maxLen], fun h => absurd h (Nat.lt_irrefl 0)⟩⟩
        | some p =>
          as_aux_lemma =>
            rw [hlo] at hld
            obtain ⟨pa, pn, pc, ra3, rc3, rfl, hms, his⟩ := hld
            obtain ⟨v6, w6, hr6, hrp6⟩ := (HRP.out.later hb5).push 54 hms (by omega)
            have HR6 := hid hr6
            have HRP6 := hid hrp6
            have HPa6 : Hid (∀ (q : Nat) u' p', us[q]? = some u' → (ps ++ [p])[q]? = some p' → valO sig l ats u' = some p') := fun q u' p' h1 h2 => by
              by_cases hq : q < ps.length
              · rw [List.getElem?_append_left hq] at h2
                exact HPa.out q u' p' h1 h2
              · rw [List.getElem?_append_right (by omega)] at h2
                have hq0 : q - ps.length = 0 := by
                  have := (List.getElem?_eq_some_iff.1 h2).1
                  simp at this
                  omega
                have hqj : q = ps.length := by omega
                subst hqj
                rw [hq0] at h2
                simp at h2
                subst h2
                rw [HUj.out] at h1
                cases h1
                exact hlo
            have HI6 := hid his
            clear hr6 hrp6 hms his hlo hb5 HRP HPa
            go_wp2_with (first
              | (at_builtin; refine wpList_append_run rfl _ _ _ rfl _ _ rfl rfl HR6.out ?_))
            go_roundw
            case rel => exact ⟨ps.length + 1, _, _, hlt, by go_num, HRP6.out, by rw [List.length_append]; rfl, HPa6.out, _, _, Y2, rfl, HY2.out, HI6.out⟩
            case measure => simp only [intOf]; omega
    · as_aux_lemma =>
        have hje : ps.length = us.length := by omega
        have hdj : decide ((ps.length : Int) < (us.length : Int)) = false := by rw [hje]; simp
        obtain rfl : Y = z := by rw [HY.out, hje, List.drop_length, List.flatten_nil, List.nil_append]
        have HJe := hid hje
        clear hje
        have HIz := HRI
        have HLA := hid (HAp.out ps HJe.out.symm HPa.out)
        have HPs := hid ((HRP.out.ps HA.out).kp (only_kp A wr))
        have HAw : Hid (∀ g, wr.heap.size ≤ g → A g = true) := fun g hg => HA.out g (Nat.le_trans HB.out.size hg)
        obtain ⟨wb, hwb⟩ : ∃ X, X = wr := ⟨_, rfl⟩
        subst hwb
        clear HPa HRI HAp HBad HI HRP
        go_wp2
        go_loopw [17, 18, 19] (fun i _ _ wx => ∃ m : Nat, m ≤ l.length ∧ i = .int .i64 m ∧ (∀ (q : Nat) y, q < m → l[q]? = some y → ¬ y.1 = (C : Int)) ∧ Below wb.heap.size wb wx) (fun i _ _ _ => l.length - (intOf i).toNat)
        case atStart => exact ⟨0, Nat.zero_le _, rfl, fun q y h => absurd h (by omega), Below.refl _ _⟩
        case round =>
          obtain ⟨m, hm, rfl, hno, hbx⟩ := hrel
          have HNo := hid hno
          have HBx := hid hbx
          clear hno hbx
          by_cases hml : m < l.length
          · as_aux_lemma =>
              have hdm : decide ((m : Int) < (l.length : Int)) = true := by simpa using hml
              have hwm : IntKind.i64.wrap ((m : Int) + 1) = ((m + 1 : Nat) : Int) := by rw [IntWalk.i64_in _ ⟨by omega, by omega⟩]; omega
              obtain ⟨g, off, dd, pp, a1, c1, rfl, hm1, hc0, hc1, hp, hcl, hcu, hp1, hp2⟩ := (HL.out.kp (Kp.of_below (below_step HB.out HBx.out))).at hml
              have htc3 := (Kp.of_below (below_step HB.out HBx.out)).cell _ _ htc
              have HM1 := hid hm1
              have HPp := hid hp
              clear hm1 hp
              by_cases hdc : dd = (C : Int)
              · as_aux_lemma =>
                  have hpe := HSp.out m dd pp HM1.out hdc
                  subst hpe
                  have hde : (dd == (C : Int)) = true := by simpa using hdc
                  clear hdc
                  go_wp2
                  go_quiet (fail)
                  obtain ⟨wq, hwq⟩ : ∃ X, X = wr.drewN nq := ⟨_, rfl⟩
                  rw [← hwq]
                  have HBq := hid (below_step HBx.out (drawn_below hwq))
                  have HPq := hid (HPp.out.kp (Kp.of_below (drawn_below hwq)))
                  have hc1q := (Kp.of_below (drawn_below hwq)).cell _ _ hc1
                  clear hwq HPp
                  go_wp2_with fail
                  refine (value_own _ _ (spol l (C : Int)) ps wq HPq.out (HPs.out.kp (Kp.of_below HBq.out))).mono ?_
                  rintro e w7 ⟨v7, rfl, ho7, hb7⟩
                  obtain ⟨pa, pn, pc, rfl⟩ := ho7.slice
                  have HM7 := hid (ow_only ho7 (A := A) fun g hg => HAw.out g (Nat.le_trans HBq.out.size hg))
                  have HB7 := hid (below_step HB.out (below_step HBq.out hb7))
                  clear ho7 hb7
                  by_cases h0 : valE (spol l (C : Int)) ps = 0
                  · have hd0 : (valE (spol l (C : Int)) ps == 0) = true := by simpa using h0
                    have HLd : Hid (Lo = some (valL (spol l (C : Int)) ps)) := by show _ = _; rw [HLA.out, if_pos h0]
                    clear h0 HLA
                    go_wp2
                    go_ret3
                    exact ⟨HB7.out, by rw [HLd.out]; exact ⟨_, _, _, _, _, rfl, HM7.out, HIz.out⟩⟩
                  · have hd0 : (valE (spol l (C : Int)) ps == 0) = false := by simpa using h0
                    have HLd : Hid (Lo = none) := by show _ = _; rw [HLA.out, if_neg h0]
                    clear h0 HLA
                    go_wp2
                    go_ret3
                    exact ⟨HB7.out, by rw [HLd.out]; exact ⟨_, _, _, rfl, HM7.out⟩⟩
              · as_aux_lemma =>
                  have hde : (dd == (C : Int)) = false := by simpa using hdc
                  have HN2 : Hid (∀ (q : Nat) y, q < m + 1 → l[q]? = some y → ¬ y.1 = (C : Int)) := fun q y hq hy => by
                    rcases Nat.lt_succ_iff_lt_or_eq.1 hq with h | h
                    · exact HNo.out q y h hy
                    · subst h
                      rw [HM1.out] at hy
                      cases hy
                      exact hdc
                  clear hdc
                  go_wp2
                  go_quiet (fail)
                  obtain ⟨wq, hwq⟩ : ∃ X, X = wr.drewN nq := ⟨_, rfl⟩
                  rw [← hwq]
                  have HBq := hid (below_step HBx.out (drawn_below hwq))
                  clear hwq
                  go_wp2
                  go_roundw
                  case rel => exact ⟨m + 1, hml, by go_num, HN2.out, HBq.out⟩
                  case measure => simp only [intOf]; omega
          · exact absurd (HMem.out) fun ⟨q, hq⟩ => HNo.out q _ (by have := (List.getElem?_eq_some_iff.1 hq).1; omega) hq rfl

/-- A right row. -/
theorem value12_any {sig : List Sy} {l : List Ip} {ats : List (List Nat)} (hin : inE sig l = 0) (hL : ∀ x ∈ l, ∀ m ∈ x.2, Lim m.1) : ∀ (N : Nat) (u : List Int), u.length ≤ N → rowE sig u = 0 → VdC sig l ats u
  | 0, u, hN, hu => by
    obtain rfl := List.eq_nil_of_length_eq_zero (by omega : u.length = 0)
    exact absurd (row_first.1 hu) (by simp [firstT])
  | N + 1, [], _, hu => absurd (row_first.1 hu) (by simp [firstT])
  | N + 1, c :: r, hN, hu => by
    have ha := sigE_ok (inE_ok hin).1
    by_cases hc : c < 0
    · obtain rfl := var12 hu hc
      exact valVar_any hc
    · obtain ⟨h1, us, h2, rfl, h3⟩ := kids12 ha hu hc
      obtain ⟨C, rfl⟩ : ∃ C : Nat, c = (C : Int) := ⟨c.toNat, by omega⟩
      refine valApp_any hin hL (by simpa using h1) h2 h3 ?_ fun u hum => ?_
      · rw [h2]
        unfold arN
        cases hsx : sig[(C : Int).toNat]? with
        | none => simp
        | some s =>
          have := ha s (List.mem_of_getElem? hsx)
          simp only
          omega
      · have hle := (List.sublist_flatten_of_mem hum).length_le
        rw [List.length_cons] at hN
        exact value12_any hin hL N u (by omega) (h3 u hum)

end Go.Proofs.YtdjmjhlbjcgoiaaGreatDoor

/- What is laid into a polynomial is worth what it is: plain data. -/
namespace Go.Proofs.YtdjmjhlbjcgoiaaGreatDoor
open Go.RowKit Go.Maps

section

variable {α : Type} {tL : α → α → α} {tE : α → α → Int} {D : α → Prop} {hv : α → Nat}

theorem powGo_hom {nil a : α} {n : Nat} (hD : ∀ x y, D x → D y → tE x y = 0 → D (tL x y)) (hh : ∀ x y, D x → D y → tE x y = 0 → hv (tL x y) = hv x * hv y) (ha : D a) : ∀ (b : Nat) (out : α), D out → hv out = hv a ^ (n / 2 ^ b) →
    (powGo tL tE nil a n b out).2 = 0 → D (powGo tL tE nil a n b out).1 ∧ hv (powGo tL tE nil a n b out).1 = hv a ^ n
  | 0, out, ho, hw, _ => by
    rw [Nat.pow_zero, Nat.div_one] at hw
    exact ⟨ho, hw⟩
  | b + 1, out, ho, hw, h => by
    have hdiv : n / 2 ^ b = 2 * (n / 2 ^ (b + 1)) + n / 2 ^ b % 2 := by
      rw [Nat.pow_succ, ← Nat.div_div_eq_div_mul]
      omega
    unfold powGo at h ⊢
    split at h
    · rename_i h0
      rw [if_pos h0]
      have d1 := hD _ _ ho ho h0
      have w1 : hv (tL out out) = hv a ^ (2 * (n / 2 ^ (b + 1))) := by
        rw [hh _ _ ho ho h0, hw, ← Nat.pow_add]
        congr 1
        omega
      split at h
      · rename_i h1
        rw [if_pos h1]
        split at h
        · rename_i h2
          rw [if_pos h2]
          refine powGo_hom hD hh ha b _ (hD _ _ d1 ha h2) ?_ h
          rw [hh _ _ d1 ha h2, w1, ← Nat.pow_succ]
          congr 1
          omega
        · rename_i h2; exact absurd h h2
      · rename_i h1
        rw [if_neg h1]
        refine powGo_hom hD hh ha b _ d1 ?_ h
        rw [w1]
        congr 1
        omega
    · rename_i h0; exact absurd h h0

end

/-- The product of the powers of what is laid in. -/
def prodV (hv : List Mn → Nat) : List Int → List (List Mn) → Nat
  | [], _ => 1
  | _ :: _, [] => 1
  | n :: es, f :: fs => hv f ^ n.toNat * prodV hv es fs

theorem worthGo_hom {hv : List Mn → Nat} (hh : ∀ x y, DomM x → DomM y → prodE x y = 0 → hv (prodL x y) = hv x * hv y) (hD : ∀ x y, DomM x → DomM y → prodE x y = 0 → DomM (prodL x y)) :
    ∀ {es : List Int} {fs : List (List Mn)} {c : List Mn}, (∀ f ∈ fs, DomM f) → (∀ n ∈ es, 0 ≤ n ∧ n ≤ 64) → DomM c → (worthGo prodL prodE es fs c).2 = 0 → hv (worthGo prodL prodE es fs c).1 = hv c * prodV hv es fs
  | [], fs, c, _, _, _, _ => by unfold worthGo prodV; rw [Nat.mul_one]
  | _ :: _, [], c, _, _, _, _ => by unfold worthGo prodV; rw [Nat.mul_one]
  | n :: es, f :: fs, c, hf, hn, hc, h => by
    have hf' : ∀ g ∈ fs, DomM g := fun g hg => hf g (List.mem_cons_of_mem _ hg)
    have hn' : ∀ m ∈ es, 0 ≤ m ∧ m ≤ 64 := fun m hm => hn m (List.mem_cons_of_mem _ hm)
    have hnn := hn n (by simp)
    have hF := hf f (by simp)
    unfold worthGo prodV at *
    by_cases h0 : n = 0
    · subst h0
      rw [if_pos rfl] at h ⊢
      rw [worthGo_hom hh hD hf' hn' hc h]
      simp
    · rw [if_neg h0] at h ⊢
      split at h
      · rename_i h1
        rw [if_pos h1]
        obtain ⟨d1, w1⟩ := powGo_hom (hv := hv) (nil := []) (n := n.toNat) hD hh hF (Lib.bitLen n.toNat - 1) f hF (by rw [bit_top (by omega) (by omega), Nat.pow_one]) h1
        split at h
        · rename_i h2
          rw [if_pos h2, worthGo_hom hh hD hf' hn' (hD _ _ hc d1 h2) h, hh _ _ hc d1 h2, w1, Nat.mul_assoc]
        · rename_i h2; exact absurd h h2
      · rename_i h1; exact absurd h h1

theorem prodV_nought {hv : List Mn → Nat} (h0 : hv [] = 0) : ∀ {es : List Int} {fs : List (List Mn)}, noughtB es fs = true → prodV hv es fs = 0
  | [], _, h => by simp [noughtB] at h
  | _ :: _, [], h => by simp [noughtB] at h
  | n :: es, f :: fs, h => by
    have h' : (decide (0 < n) && f.length == 0 || noughtB es fs) = true := h
    rw [Bool.or_eq_true] at h'
    unfold prodV
    rcases h' with h' | h'
    · simp only [Bool.and_eq_true, decide_eq_true_eq, beq_iff_eq] at h'
      have : f = [] := List.eq_nil_of_length_eq_zero h'.2
      subst this
      rw [h0, Nat.zero_pow (by omega), Nat.zero_mul]
    · rw [prodV_nought h0 h', Nat.mul_zero]

theorem prodV_values (ats : List (List Nat)) : ∀ {es : List Int} {fs : List (List Mn)} {vs : List (List Nat)}, vs.map val = fs.map (worthN ats) → prodV (worthN ats) es fs = prodW es vs
  | [], _, _, _ => rfl
  | _ :: _, [], [], _ => rfl
  | _ :: _, [], _ :: _, h => by simp at h
  | _ :: _, _ :: _, [], h => by simp at h
  | n :: es, f :: fs, v :: vs, h => by
    simp only [List.map_cons, List.cons.injEq] at h
    unfold prodV prodW
    rw [h.1, prodV_values ats h.2]

theorem dom_const (c : List Nat) : DomM [(c, [])] := by
  intro k m hk
  match k with
  | 0 =>
    simp at hk
    subst hk
    exact ⟨by simp, fun j x hj => (by simp at hj)⟩
  | k + 1 => simp at hk

theorem compGo_worth (ats : List (List Nat)) (hD : ∀ x y, DomM x → DomM y → prodE x y = 0 → DomM (prodL x y)) {args : List (List Mn)} (ha : ∀ f ∈ args, DomM f) {vs : List (List Nat)} (hvs : vs.map val = args.map (worthN ats)) :
    ∀ {p : List Mn} {L : LkY}, DomM p → Rising L → (compGo args L p).2 = 0 → worthK ats (compGo args L p).1 = worthK ats L + worthN vs p
  | [], L, _, _, _ => by simp [compGo, worthN]
  | m :: p, L, hp, hL, h => by
    have hm : Small m.2 := hp 0 m rfl
    have hn : ∀ n ∈ m.2, 0 ≤ n ∧ n ≤ 64 := fun n hn => by
      obtain ⟨k, hk⟩ := List.mem_iff_getElem?.1 hn
      exact hm.2 k n hk
    unfold compGo at h ⊢
    split at h
    · rename_i h0
      rw [if_pos h0]
      split at h
      · rename_i h1
        rw [if_pos h1]
        obtain ⟨r1, w1⟩ := worthK_puts ats hL h1
        rw [compGo_worth ats hD ha hvs (fun k x hx => hp (k + 1) x hx) r1 h, w1, worthN]
        have e : worthN ats (worthV prodL prodE m.2 args [(m.1, [])]).1 = val m.1 * prodW m.2 vs := by
          rw [← prodV_values ats (es := m.2) hvs]
          unfold worthV at h0 ⊢
          cases hno : noughtB m.2 args
          · rw [hno] at h0
            simp only [Bool.false_eq_true, if_false] at h0 ⊢
            rw [worthGo_hom (hv := worthN ats) (fun x y dx dy hxy => worthN_prod ats dx dy hxy) hD ha hn (dom_const m.1) h0]
            simp [worthN, prodW]
          · simp only [if_true]
            rw [prodV_nought rfl hno, Nat.mul_zero]
            rfl
        rw [e]
        omega
      · rename_i h1; exact absurd h h1
    · rename_i h0; exact absurd h h0

end Go.Proofs.YtdjmjhlbjcgoiaaGreatDoor

/- What a polynomial is worth is what the term is worth, plainly. -/
namespace Go.Proofs.YtdjmjhlbjcgoiaaGreatDoor

theorem comp_worth {p : List Mn} {args : List (List Mn)} {row xs : List (List Nat)} (hc : compE p args = 0) (hmap : xs.map val = args.map (worthN row)) : worthN row (compL p args) = worthN xs p := by
  have hcc := hc
  unfold compE at hcc
  split at hcc
  · rename_i c1
    split at hcc
    · rename_i c2
      split at hcc
      · unfold compL
        rw [if_pos hc, worthN_row, compGo_worth row domM_prod (checkAll_mem c2) hmap (small_of_check (checkAll1 c1)) rising_nil hcc]
        simp [worthK]
      · simp at hcc
    · rename_i c2; exact absurd hcc c2
  · rename_i c1; exact absurd hcc c1

theorem spol_lim {l : List Ip} (hL : ∀ x ∈ l, ∀ m ∈ x.2, Lim m.1) (c : Int) : ∀ m ∈ spol l c, Lim m.1 := by
  induction l with
  | nil => intro m hm; cases hm
  | cons x r ih =>
    intro m hm
    rw [spol] at hm
    split at hm
    · exact hL x (by simp) m hm
    · exact ih (fun y hy => hL y (List.mem_cons_of_mem _ hy)) m hm

/-- The two stacks stand for the same numbers. -/
theorem stack_worth {sig : List Sy} {l : List Ip} (hL : ∀ x ∈ l, ∀ m ∈ x.2, Lim m.1) {row : List (List Nat)} {vr : Int → List Nat} {vp : Int → List Mn} : ∀ (u : List Int), (∀ c ∈ u, c < 0 → RtY (vr c) (worthN row (vp c))) → ∀ sv sq, valS sig (spol l) vr u = some sv → ofS sig (spol l) vp u = some sq →
    sv.length = sq.length ∧ ∀ (i : Nat) x q, sv[i]? = some x → sq[i]? = some q → RtY x (worthN row q)
  | [], _, sv, sq, h1, h2 => by
    cases h1
    cases h2
    exact ⟨rfl, fun i x q h => by simp at h⟩
  | c :: u, hv, sv, sq, h1, h2 => by
    cases hsv : valS sig (spol l) vr u with
    | none => rw [valS_none hsv] at h1; cases h1
    | some sv' =>
      cases hsq : ofS sig (spol l) vp u with
      | none => rw [ofS_none hsq] at h2; cases h2
      | some sq' =>
        obtain ⟨il, ih⟩ := stack_worth hL u (fun x hx => hv x (List.mem_cons_of_mem _ hx)) sv' sq' hsv hsq
        by_cases hc : c < 0
        · rw [valS_var hsv hc] at h1
          rw [ofS_var hsq hc] at h2
          cases h1
          cases h2
          refine ⟨by simp [il], fun i x q hi hq => ?_⟩
          cases i with
          | zero =>
            simp at hi hq
            subst hi hq
            exact hv c (by simp) hc
          | succ i => exact ih i x q (by simpa using hi) (by simpa using hq)
        · by_cases hz1 : valE (spol l c) (sv'.take (arN sig c)) = 0
          · by_cases hz2 : compE (spol l c) (sq'.take (arN sig c)) = 0
            · rw [valS_yes hsv hc hz1] at h1
              rw [ofS_yes hsq hc hz2] at h2
              cases h1
              cases h2
              refine ⟨by simp [il], fun i x q hi hq => ?_⟩
              cases i with
              | zero =>
                simp only [List.getElem?_cons_zero, Option.some.injEq] at hi hq
                subst hi hq
                have hmap : (sv'.take (arN sig c)).map val = (sq'.take (arN sig c)).map (worthN row) := by
                  apply List.ext_getElem?
                  intro k
                  rw [List.getElem?_map, List.getElem?_map]
                  by_cases hk : k < arN sig c
                  · rw [List.getElem?_take_of_lt hk, List.getElem?_take_of_lt hk]
                    cases hx : sv'[k]? with
                    | none =>
                      have : sq'[k]? = none := by
                        rw [List.getElem?_eq_none_iff] at hx ⊢
                        omega
                      rw [this]
                      rfl
                    | some x =>
                      have hkl := (List.getElem?_eq_some_iff.1 hx).1
                      have hq2 : sq'[k]? = some (sq'[k]'(by omega)) := List.getElem?_eq_getElem _
                      rw [hq2]
                      have := (ih k x _ hx hq2).val
                      simp [this]
                  · rw [List.getElem?_eq_none (by rw [List.length_take]; omega), List.getElem?_eq_none (by rw [List.length_take]; omega)]
                    rfl
                rw [comp_worth hz2 hmap]
                refine valL_spec (spol_lim hL c) (fun f hf => ?_) hz1
                obtain ⟨k, hk⟩ := List.getElem?_of_mem (List.mem_of_mem_take hf)
                have hkl := (List.getElem?_eq_some_iff.1 hk).1
                rw [(ih k f _ hk (List.getElem?_eq_getElem (show k < sq'.length by omega))).1]
                exact limbs_lim _
              | succ i =>
                simp only [List.getElem?_cons_succ, List.getElem?_drop] at hi hq
                exact ih _ x q hi hq
            · rw [ofS_no hsq hc hz2] at h2; cases h2
          · rw [valS_no hsv hc hz1] at h1; cases h1

theorem prodW_one : ∀ (k : Nat) (row : List (List Nat)) (x : List Nat), row[k]? = some x → prodW (List.replicate k (0 : Int) ++ [1]) row = val x
  | 0, [], x, h => by simp at h
  | 0, y :: r, x, h => by
    simp at h
    subst h
    simp [prodW]
  | k + 1, [], x, h => by simp at h
  | k + 1, y :: r, x, h => by
    rw [List.replicate_succ, List.cons_append, prodW, prodW_one k r x (by simpa using h)]
    simp

theorem worth_vpol {k : Nat} {row : List (List Nat)} {x : List Nat} (h : row[k]? = some x) : worthN row (vpol k) = val x := by
  unfold vpol
  rw [worthN, worthN, prodW_one k row x h]
  simp [val]

/-- What the term is worth, and what its polynomial is worth. -/
theorem worth_same {sig : List Sy} (ha : ArOk sig) {l : List Ip} (hL : ∀ x ∈ l, ∀ m ∈ x.2, Lim m.1) {ats : List (List Nat)} (hat : ∀ x ∈ ats, Lim x ∧ rightB x = true) {t : List Int} (ht : rowE sig t = 0) {x : List Nat} {p : List Mn} (hx : valO sig l ats t = some x) (hp : ofV sig l (varsL t) t = some p) (hlp : ∀ m ∈ p, Lim m.1)
    (he : valE p ((varsL t).map fun v => atV ats (-1 - v)) = 0) : x = valL p ((varsL t).map fun v => atV ats (-1 - v)) := by
  have hatv : ∀ c, Lim (atV ats c) ∧ rightB (atV ats c) = true := fun c => by
    unfold atV
    split
    · exact ⟨Lim.nil, by decide⟩
    · rename_i h0
      have hk : (-1 - c).toNat % ats.length < ats.length := Nat.mod_lt _ (by omega)
      rw [List.getElem?_eq_getElem hk]
      exact hat _ (List.getElem_mem hk)
  obtain ⟨row, hrow⟩ : ∃ row, row = (varsL t).map fun v => atV ats (-1 - v) := ⟨_, rfl⟩
  rw [← hrow] at he ⊢
  have hv : ∀ c ∈ t, c < 0 → RtY (atV ats c) (worthN row (vAt (varsL t) c)) := fun c hc h0 => by
    have hm := vars_mem12 hc h0
    have hk := List.idxOf_lt_length_of_mem hm
    have hr : row[(varsL t).idxOf (-1 - c)]? = some (atV ats c) := by
      rw [hrow, List.getElem?_map, List.getElem?_eq_getElem hk]
      simp only [Option.map_some, List.getElem_idxOf, Option.some.injEq]
      congr 1
      omega
    unfold vAt
    rw [worth_vpol hr]
    exact RtY.of (hatv c).1 (hatv c).2
  have h1 := valO_of ha ht hx
  have h2 : ofS sig (spol l) (vAt (varsL t)) t = some [p] := by
    rcases ofS_one (sp := spol l) (vp := vAt (varsL t)) ha ht with h | ⟨q, h⟩
    · rw [ofV_none h] at hp; cases hp
    · by_cases h5 : 512 < (varsL t).length
      · unfold ofV at hp
        rw [if_pos h5] at hp
        cases hp
      · rw [ofV_some (by omega) h] at hp
        cases hp
        exact h
  have h3 := (stack_worth hL t hv _ _ h1 h2).2 0 x p rfl rfl
  have h4 := valL_spec hlp (fun f hf => by
    rw [hrow] at hf
    obtain ⟨v, _, rfl⟩ := List.mem_map.1 hf
    exact (hatv _).1) he
  exact h3.inj h4

end Go.Proofs.YtdjmjhlbjcgoiaaGreatDoor

/- small: every number of a row is right. -/
namespace Go.Proofs.YtdjmjhlbjcgoiaaGreatDoor
open Go.RowKit Go.Maps Go.BigFrame

set_option maxRecDepth 100000 in
set_option maxHeartbeats 1600000 in
theorem small12_any (av : Value) (ats : List (List Nat)) (w : World) (ha : RsY w av ats) :
    Calls Tryz.prog 27 #[av] w fun e w' => e = .returned (.bool (ats.all rightB)) ∧ w' = w := by
  obtain ⟨ao, cap, rfl, _, hcm, _⟩ := Row.flat ha
  unfold maxLen at hcm
  have HA := hid ha
  clear ha
  go_enter Tryz.func27, Tryz.ntmps27
  go_wp2
  go_loopw [3] (fun i wr => ∃ k : Nat, k ≤ ats.length ∧ i = .int .i64 k ∧ (∀ (j : Nat) (x : List Nat), j < k → ats[j]? = some x → rightB x = true) ∧ wr = w) (fun i _ => ats.length - (intOf i).toNat)
  case atStart => exact ⟨0, by omega, rfl, fun j x hj => absurd hj (by omega), rfl⟩
  case round =>
    obtain ⟨k, hk, rfl, hp, hw⟩ := hrel
    have hw8 := hw.symm
    subst hw8
    clear hw
    have HPk : Hid (∀ (j : Nat) (x : List Nat), j < k → ats[j]? = some x → rightB x = true) := hp
    clear hp
    by_cases hlt : k < ats.length
    · obtain ⟨g2, off2, f, a1, n1, c1, rfl, hy1, hy2, hy3⟩ := HA.out.at12 hlt
      obtain rfl : n1 = f.length := by obtain ⟨a, c, h, _⟩ := hy3.flat; simp only [Value.slice.injEq] at h; exact h.2.1
      have HY : Hid (ats[k]? = some f) := hy1
      have HFr : Hid (Sl w (.slice a1 f.length c1) f) := hy3
      clear hy1 hy3
      go_wp2_with fail
      refine (right_any _ f _ HFr.out).mono ?_
      rintro e w9 ⟨rfl, hw9⟩
      have hw8 := hw9.symm
      subst hw8
      clear hw9
      cases hr : rightB f
      · have hc : ats.all rightB = false := by
          rw [List.all_eq_false]
          exact ⟨f, List.mem_of_getElem? HY.out, by rw [hr]; simp⟩
        have HC := hid hc
        clear hc hr
        go_wp2
        go_ret
        exact ⟨ret1b HC.out.symm, by trivial⟩
      · have HR : Hid (rightB f = true) := hr
        have hf : f.length ≤ 64 := by
          unfold rightB at hr
          rw [Bool.and_eq_true, decide_eq_true_eq] at hr
          exact hr.1
        have hdl : decide (64 < f.length) = false := decide_eq_false (by omega)
        clear hr
        go_wp2
        go_roundw
        case rel =>
          refine ⟨k + 1, by omega, by go_num, fun j x hj h1 => ?_, trivial⟩
          by_cases hjk : j = k
          · subst hjk; rw [HY.out] at h1; cases h1; exact HR.out
          · exact HPk.out j x (by omega) h1
        case measure => simp [intOf]; omega
    · have hke : k = ats.length := by omega
      subst hke
      have hall : ats.all rightB = true := by
        rw [List.all_eq_true]
        intro x hx
        obtain ⟨j, hj⟩ := List.mem_iff_getElem?.1 hx
        exact HPk.out j x (List.getElem?_eq_some_iff.1 hj).1 hj
      have HC := hid hall
      clear hall hlt hk
      go_wp2
      go_ret
      exact ⟨ret1b HC.out.symm, by trivial⟩

end Go.Proofs.YtdjmjhlbjcgoiaaGreatDoor

/- InterpWorth walked. -/
namespace Go.Proofs.YtdjmjhlbjcgoiaaGreatDoor
open Go.RowKit Go.Maps Go.BigFrame

theorem vdO_one {o : Option (List Nat)} {z : List Int} {A : Nat → Bool} {w0 w' : World} {e : Ending} (h : VdO o z A w0 e w') : ∃ a b k, e = .returned (.tuple #[a, b, .bool k]) ∧ (k = true → ∃ x, o = some x ∧ Sl (onlyY A w') a x) := by
  cases o with
  | none =>
    obtain ⟨a, b, xs, rfl, _⟩ := h
    exact ⟨a, b, false, rfl, fun h => by cases h⟩
  | some x =>
    obtain ⟨xa, xn, xc, ra, rc, rfl, h1, _⟩ := h
    exact ⟨_, _, true, rfl, fun _ => ⟨x, rfl, h1⟩⟩

theorem limY {w : World} {v : Value} {ats : List (List Nat)} (h : RsY w v ats) : ∀ x ∈ ats, Lim x := fun x hx => by
  obtain ⟨ao, cap, rfl, _, _, _⟩ := Row.flat h
  obtain ⟨k, hk⟩ := List.mem_iff_getElem?.1 hx
  obtain ⟨g, off, y, a1, n1, c1, _, h1, _, h2⟩ := h.at12 (List.getElem?_eq_some_iff.1 hk).1
  rw [hk] at h1
  cases h1
  exact h2.1

theorem ofPE_zero {sig : List Sy} {l : List Ip} {t : List Int} (h : ofPE sig l t = 0) : inE sig l = 0 ∧ termE sig t = 0 := by
  unfold ofPE at h
  split at h
  · rename_i h1
    split at h
    · rename_i h2
      exact ⟨h1, h2⟩
    · rename_i h2
      exact absurd h h2
  · rename_i h1
    exact absurd h h1

set_option maxRecDepth 100000 in
set_option maxHeartbeats 6400000 in
theorem interpWorth_any (hsh : Shown12) (sv lv tv av : Value) (sig : List Sy) (l : List Ip) (t : List Int) (ats : List (List Nat)) (w : World) (hs : Sg w sv sig) (hl : Ins w lv l) (ht : Is w tv t) (hv : RsY w av ats) (hT : Tabs w) (hb : t.length * 24 ≤ 140737488351232) :
    Calls Tryz.prog 7 #[sv, lv, tv, av] w fun e w' => e = .returned (.bool true) ∧ Below w.heap.size w w' := by
  obtain ⟨tq, tc, rfl, _, _, _⟩ := Row.flat ht
  obtain ⟨lo, lc, rfl, _, hlcm, _⟩ := Row.flat hl
  unfold maxLen at hlcm
  have HLim := hid hl.lim
  have HALim := hid (limY hv)
  have HSh := hid hsh
  have HS := hid hs
  have HL := hid hl
  have HTt := hid ht
  have HT := hid hT
  have HV := hid hv
  have HOf := hid fun (W : World) (hW : Below w.heap.size w W) => interpOf_any _ _ _ sig l t W (hs.kp (Kp.of_below hW)) (hl.kp (Kp.of_below hW)) (ht.kp (Kp.of_below hW)) (hT.below hW) hb
  have HRi := hid fun (W : World) (hW : Below w.heap.size w W) => right12_any _ _ _ sig l t W (hs.kp (Kp.of_below hW)) (hl.kp (Kp.of_below hW)) (ht.kp (Kp.of_below hW)) (by omega)
  clear hs hl hT hsh ht hv
  go_enter Tryz.func7, Tryz.ntmps7
  go_wp2_with fail
  refine (HSh.out w HT.out).mono ?_
  rintro e w1 ⟨rfl, hb1⟩
  have B1 := hid hb1
  clear hb1
  obtain ⟨E, hE⟩ : ∃ E, E = ofPE sig l t := ⟨_, rfl⟩
  obtain ⟨p, hp⟩ : ∃ p, p = ofPL sig l t := ⟨_, rfl⟩
  have HE := hid hE
  have HP := hid hp
  have HC2 := hid (HOf.out w1 B1.out)
  rw [← hE, ← hp] at HC2
  clear hE hp
  go_wp2_with fail
  refine HC2.out.mono ?_
  rintro e w2 ⟨⟨v, rfl, hom⟩, hb2⟩
  have HM := hid hom.ms
  have B2 := hid (below_step B1.out hb2)
  obtain ⟨pa, pc, rfl⟩ := hom.slice
  clear hom hb2 HC2 B1
  by_cases hE0 : E = 0
  · have he1 : (E != 0) = false := by rw [hE0]; rfl
    have HR2 := hid (ofPE_zero (HE.out.symm.trans hE0))
    have HRt : Hid (decide (inE sig l = 0 ∧ termE sig t = 0) = true) := decide_eq_true HR2.out
    subst hE0
    have HC3 := hid (HRi.out w2 B2.out)
    rw [HRt.out] at HC3
    clear he1
    go_wp2_with fail
    refine HC3.out.mono ?_
    rintro e w3 ⟨rfl, hb3⟩
    have B3 := hid (below_step B2.out hb3)
    have HM3 := hid (HM.out.kp (Kp.of_below hb3))
    clear hb3 HM B2 HC3
    go_wp2_with fail
    refine (small12_any _ ats w3 (HV.out.kp (Kp.of_below B3.out))).mono ?_
    rintro e w4 ⟨rfl, hw4⟩
    have hw4' := hw4.symm
    subst hw4'
    clear hw4
    cases hsm : ats.all rightB
    · have HC3 := hid (HRi.out w3 B3.out)
      rw [HRt.out] at HC3
      clear hsm
      go_wp2_with fail
      refine HC3.out.mono ?_
      rintro e w5 ⟨rfl, hb5⟩
      have B5 := hid (below_step B3.out hb5)
      clear hb5 HC3
      go_wp2
      go_ret
      exact ⟨rfl, B5.out⟩
    · have HSm : Hid (∀ x ∈ ats, Lim x ∧ rightB x = true) := fun x hx => ⟨HALim.out x hx, List.all_eq_true.1 hsm x hx⟩
      have HC3 := hid (value12_any (ats := ats) HR2.out.1 HLim.out t.length t (Nat.le_refl _) (term_parts HR2.out.2).2 (fun _ => true) w w3 _ _ av tq tc t [] (fun _ _ => rfl) B3.out (HS.out.kp (Kp.of_below B3.out)) (HL.out.kp (Kp.of_below B3.out)) ((HV.out.kp (Kp.of_below B3.out)).kp (true_kp _)) (List.append_nil _).symm HTt.out)
      clear hsm HRt HRi HOf HSh
      go_wp2_with fail
      refine HC3.out.mono ?_
      rintro e w5 ⟨hb5, hvd⟩
      obtain ⟨xv, rv, ok, rfl, hok⟩ := vdO_one hvd
      have HOk : Hid (ok = true → ∃ x, valO sig l ats t = some x ∧ Sl w5 xv x) := fun h => by
        obtain ⟨x, h1, h2⟩ := hok h
        exact ⟨x, h1, h2.kp (only_kp _ _)⟩
      have B5 := hid (below_step B3.out hb5)
      have HM5 := hid (HM3.out.kp (Kp.of_below hb5))
      clear hb5 hvd hok HM3 B3 HC3
      go_wp2_with fail
      refine (refVars_any _ t w5 (HTt.out.kp (Kp.of_below B5.out)) (by omega)).mono ?_
      rintro e w6 ⟨kv, rfl, hok, hb6⟩
      have HK := hid hok.is
      obtain ⟨ka, kc, rfl, hkc1, hkc2⟩ := hok.shape
      unfold maxLen at hkc2
      have B6 := hid (below_step B5.out hb6)
      have HM6 := hid (HM5.out.kp (Kp.of_below hb6))
      have HOk6 : Hid (ok = true → ∃ x, valO sig l ats t = some x ∧ Sl w6 xv x) := fun h => by
        obtain ⟨x, h1, h2⟩ := HOk.out h
        exact ⟨x, h1, h2.kp (Kp.of_below hb6)⟩
      have HKl : Hid ((varsL t).length ≤ t.length) := varsL_len t
      have HKv : Hid (∀ x ∈ varsL t, 0 ≤ x) := fun x hx => by
        obtain ⟨c, _, h1, h2⟩ := vars_of12 hx
        omega
      obtain ⟨K, hK⟩ : ∃ K, K = varsL t := ⟨_, rfl⟩
      have HKe := hid hK
      rw [← hK] at HK HKl HKv hkc1 ⊢
      clear hok hb6 HM5 HOk B5 hK
      have HN0 := hid (RV12.new (fun _ => true) w6)
      obtain ⟨w7, hw7⟩ : ∃ X, X = w6.alloc (.cells #[] 35) := ⟨_, rfl⟩
      rw [← hw7] at HN0
      go_wp2
      rw [← hw7]
      clear hw7
      go_loopw [16, 17, 18, 19, 20] (fun a i _ _ _ wr => ∃ (j : Nat) (vals : List Value) (ps : List (List Nat)), j ≤ K.length ∧ i = .int .i64 j ∧ RV12 (fun _ => true) w6 wr a vals ps ∧ ps = (K.take j).map fun v => atV ats (-1 - v)) (fun _ i _ _ _ _ => K.length - (intOf i).toNat)
      case atStart => exact ⟨0, [], [], Nat.zero_le _, rfl, HN0.out, by simp⟩
      case round =>
        clear HN0
        obtain ⟨j, vals, ps, hj, rfl, hrp, hqs⟩ := hrel
        have HRP := hid hrp
        have HQs := hid hqs
        have HB := hid hrp.bel
        obtain ⟨aa, ac, rfl, hac1, hac2⟩ := hrp.shape
        unfold maxLen at hac2
        clear hrp hqs
        by_cases hlt : j < K.length
        · as_aux_lemma =>
            have hql : ps.length ≤ t.length := by rw [HQs.out, List.length_map, List.length_take]; have := HKl.out; omega
            have hdj : decide ((j : Int) < (K.length : Int)) = true := by simpa using hlt
            have hwj : IntKind.i64.wrap ((j : Int) + 1) = ((j + 1 : Nat) : Int) := by rw [IntWalk.i64_in _ ⟨by omega, by omega⟩]; omega
            obtain ⟨gk, ok', x, rfl, hx, hxc, hx1, hx2⟩ := (HK.out.kp (Kp.of_below HB.out)).at hlt
            have hx0 := HKv.out x (List.mem_of_getElem? hx)
            have hwx : IntKind.i64.wrap (-1 - x) = -1 - x := IntWalk.i64_in _ ⟨by omega, by omega⟩
            have HQ11 : Hid (ps ++ [atV ats (-1 - x)] = (K.take (j + 1)).map fun v => atV ats (-1 - v)) := by show _ = _; rw [take_get hx, HQs.out, List.map_append]; rfl
            obtain ⟨c, hc⟩ : ∃ c, c = -1 - x := ⟨_, rfl⟩
            rw [← hc] at hwx HQ11
            have hc0 : c < 0 := by omega
            have hc1 : -9223372036854775808 ≤ c := by omega
            obtain ⟨w8, hw8⟩ : ∃ X, X = wr.alloc (.cells #[.int .i64 c] 3) := ⟨_, rfl⟩
            have hb8 : Below wr.heap.size wr w8 := by rw [hw8]; exact below_alloc _
            have HI8 : Hid (Is w8 (.slice (some ⟨wr.heap.size, 0, none⟩) 1 1) [c]) := is_oneI ⟨hc1, by omega⟩ (by rw [hw8]; simp)
            have HRP8 := hid (HRP.out.later hb8)
            have BW := hid (below_step (below_step B6.out HB.out) hb8)
            have HB8 := hid (below_step HB.out hb8)
            have hcall := valVar_any (sig := sig) (l := l) (ats := ats) hc0 (noB (fun _ => true) (.slice aa ps.length ac)) w8 w8 _ _ av (some ⟨wr.heap.size, 0, none⟩) 1 [c] [] (fun g hg => by
              unfold noB
              rw [Bool.and_eq_true, decide_eq_true_eq]
              refine ⟨rfl, fun e => ?_⟩
              have := own_blk_lt HRP8.out.row e
              omega) (Below.refl _ _) (HS.out.kp (Kp.of_below BW.out)) (HL.out.kp (Kp.of_below BW.out)) (((HV.out.kp (Kp.of_below B6.out)).kp (true_kp _)).kp (only_to HB8.out.size fun g hg hAg => by
              refine ⟨?_, HB8.out.block g hg⟩
              unfold noB
              rw [Bool.and_eq_true, decide_eq_true_eq]
              refine ⟨rfl, fun e => ?_⟩
              have := own_blk HRP.out.row e
              omega)) rfl HI8.out
            rw [valO_var hc0] at hcall
            have HC := hid hcall
            have HCx := hid hc
            clear hcall hx hc hc0 hc1 hx0 hb8 HRP
            go_wp2_with fail
            rw [← HCx.out, ← hw8]
            refine HC.out.mono ?_
            rintro e w9 ⟨hb9, hld⟩
            obtain ⟨xa, xn, xc, ra3, rc3, rfl, hms, his⟩ := hld
            obtain ⟨v11, w11, hr11, hrp11⟩ := (HRP8.out.later hb9).push 54 hms (by omega)
            have HR11 := hid hr11
            have HRP11 := hid hrp11
            clear hb9 hr11 hrp11 HC HRP8 hms his hw8
            go_wp2_with (first
              | (at_builtin; refine wpList_append_run rfl _ _ _ rfl _ _ rfl rfl HR11.out ?_))
            go_roundw
            case rel => exact ⟨j + 1, _, _, hlt, by go_num, HRP11.out, HQ11.out⟩
            case measure => simp only [intOf]; omega
        · as_aux_lemma =>
            have hdj : decide ((j : Int) < (K.length : Int)) = false := by simpa using hlt
            have hqe : ps = K.map fun v => atV ats (-1 - v) := by rw [HQs.out, List.take_of_length_le (by omega)]
            have HQe := hid hqe
            have HAr := hid ((HRP.out.ps (fun _ _ => rfl)).kp (only_kp _ _))
            have BW := hid (below_step B6.out HB.out)
            obtain ⟨F, hF⟩ : ∃ F, F = valE p ps := ⟨_, rfl⟩
            have HF := hid hF
            have HCv := hid (value_any _ _ p ps wr (HM6.out.kp (Kp.of_below HB.out)) HAr.out)
            rw [← hF] at HCv
            have HPlim := hid HM6.out.limA
            clear hF hqe HRP HQs HK
            go_wp2_with fail
            refine HCv.out.mono ?_
            rintro e w9 ⟨yv, rfl, hyv, hb9⟩
            have HY := hid hyv
            have B9 := hid (below_step BW.out hb9)
            have HOk9 : Hid (ok = true → ∃ x, valO sig l ats t = some x ∧ Sl w9 xv x) := fun h => by
              obtain ⟨x, h1, h2⟩ := HOk6.out h
              exact ⟨x, h1, (h2.kp (Kp.of_below HB.out)).kp (Kp.of_below hb9)⟩
            clear hyv hb9 HCv HOk6 BW HB
            cases ok
            · go_wp2
              go_ret
              exact ⟨rfl, B9.out⟩
            · by_cases hF0 : F = 0
              · subst hF0
                obtain ⟨x, hx1, hx2⟩ := HOk9.out rfl
                have HX := hid hx2
                have hxe : x = valL p ps := by
                  have hp1 : p = ovL (ofV sig l (varsL t) t) := by rw [HP.out]; unfold ofPL; rw [if_pos HR2.out]
                  have he2 : (0 : Int) = ovE (ofV sig l (varsL t) t) := by rw [HE.out]; unfold ofPE; rw [if_pos HR2.out.1, if_pos HR2.out.2]
                  cases hov : ofV sig l (varsL t) t with
                  | none => rw [hov] at he2; cases he2
                  | some P =>
                    rw [hov] at hp1
                    have hp2 : p = P := hp1
                    subst hp2
                    have h0 := HF.out.symm
                    rw [HQe.out, HKe.out] at h0 ⊢
                    exact worth_same (sigE_ok (inE_ok HR2.out.1).1) HLim.out HSm.out (term_parts HR2.out.2).2 hx1 hov HPlim.out h0
                have HXd : Hid (decide (x = valL p ps) = true) := decide_eq_true hxe
                clear hx1 hx2 hxe
                go_wp2_with fail
                refine (sameNat12_any _ _ _ _ w9 HX.out HY.out).mono ?_
                rw [HXd.out]
                rintro e w10 ⟨rfl, n, hw10⟩
                have B10 := hid (below_step B9.out (drawn_below hw10))
                clear hw10
                go_wp2
                go_ret
                exact ⟨rfl, B10.out⟩
              · have hf1 : (F != 0) = true := by simpa using hF0
                go_wp2
                go_ret
                exact ⟨rfl, B9.out⟩
  · have he1 : (E != 0) = true := by simpa using hE0
    go_wp2
    go_ret
    exact ⟨rfl, B2.out⟩

end Go.Proofs.YtdjmjhlbjcgoiaaGreatDoor
