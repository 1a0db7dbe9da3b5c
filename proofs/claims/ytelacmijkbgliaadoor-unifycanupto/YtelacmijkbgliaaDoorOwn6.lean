/- Texts of the proof, one behind the other. -/
import Derived.Test.YtelacmijkbgliaaDoorOwn5
/- finish of package unify walked. -/
namespace Go.Proofs.YtelacmijkbgliaaDoor
open Go.RowKit Go.Maps Go.BigFrame

/-- The nodes of a class by those of its parts, cut off. -/
def sumC (cnt : Nat → Int) (ps : List Nat) : Int := ps.foldl (fun s p => if s + cnt p < 513 then s + cnt p else 513) 1

theorem sumC_snoc (cnt : Nat → Int) (ps : List Nat) (p : Nat) : sumC cnt (ps ++ [p]) = if sumC cnt ps + cnt p < 513 then sumC cnt ps + cnt p else 513 := by
  unfold sumC
  rw [List.foldl_append]
  rfl

theorem sumC_bnd {cnt : Nat → Int} {ps : List Nat} (h : ∀ p ∈ ps, 0 ≤ cnt p ∧ cnt p ≤ 513) : 1 ≤ sumC cnt ps ∧ sumC cnt ps ≤ 513 := by
  unfold sumC
  have key : ∀ (ps : List Nat) (s : Int), (∀ p ∈ ps, 0 ≤ cnt p ∧ cnt p ≤ 513) → 1 ≤ s → s ≤ 513 → 1 ≤ ps.foldl (fun s p => if s + cnt p < 513 then s + cnt p else 513) s ∧ ps.foldl (fun s p => if s + cnt p < 513 then s + cnt p else 513) s ≤ 513 := by
    intro ps
    induction ps with
    | nil => intro s _ h1 h2; exact ⟨h1, h2⟩
    | cons p ps ih =>
      intro s h h1 h2
      rw [List.foldl_cons]
      have hp := h p (by simp)
      apply ih _ (fun x hx => h x (by simp [hx]))
      · split <;> omega
      · split <;> omega
  exact key ps 1 h (by omega) (by omega)

theorem ptsN_lt {M : List Nm} {root : Nat → Nat} (hwf : ∀ (i : Nat) (m : Nm) (c : Int) (xs : List Nat), M[i]? = some m → m.nd = .app c xs → (∀ x ∈ xs, x < M.length) ∧ xs.length ≤ 1000) (hr : ∀ i, i < M.length → root i < M.length) {f : Nat} : (∀ p ∈ ptsN M root f, p < M.length) ∧ (ptsN M root f).length ≤ 1000 := by
  unfold ptsN
  cases hm : M[f]? with
  | none => exact ⟨fun p hp => by simp at hp, by simp⟩
  | some m =>
    simp only [Option.map_some]
    cases hn : m.nd with
    | var n => exact ⟨fun p hp => by simp at hp, by simp⟩
    | app c xs =>
      obtain ⟨h1, h2⟩ := hwf f m c xs hm hn
      simp only
      refine ⟨fun p hp => ?_, by rw [List.length_map]; exact h2⟩
      obtain ⟨x, hx, rfl⟩ := List.mem_map.1 hp
      exact hr x (h1 x hx)

set_option maxRecDepth 100000 in
set_option maxHeartbeats 3200000 in
theorem finish_any {w : World} {B T : Nat} {M : List Nm} {into : Nat → Option Nat} {face : Nat → Nat} {cnt : Nat → Int} {root rk : Nat → Nat} (hb : Bd6 w B T M into face cnt) (hf : Fr6 M.length into root rk) (hlow : T ≤ w.heap.size) (hwf : ∀ (i : Nat) (m : Nm) (c : Int) (xs : List Nat), M[i]? = some m → m.nd = .app c xs → (∀ x ∈ xs, x < M.length) ∧ xs.length ≤ 1000) (hr : ∀ i, i < M.length → root i < M.length)
    {i : Nat} {mi : Nm} (hmi : M[i]? = some mi) (hfl : face i < M.length) (hp : cnt i = -1 → ∀ p ∈ ptsN M root (face i), p ≠ i ∧ 0 ≤ cnt p ∧ cnt p ≤ 513) :
    Calls Tryd.prog 64 #[.pointer (some ⟨mi.cls, 0, none⟩)] w fun e w' => e = .returned (.tuple #[]) ∧ ∃ into', Bd6 w' B T M into' face (fun j => if j = i then (if cnt i = -1 then sumC cnt (ptsN M root (face i)) else cnt i) else cnt j) ∧ Fr6 M.length into' root rk ∧ Ch6 M w w' := by
  obtain ⟨k9, hk9, _, _, _, x3⟩ := hb.clc hmi
  have HB := hid hb
  have HF := hid hf
  have HLo := hid hlow
  have HWf := hid hwf
  have HMi := hid hmi
  by_cases hc : cnt i = -1
  · have hp' := hp hc
    rw [if_pos hc]
    obtain ⟨ps, hps⟩ : ∃ ps, ps = ptsN M root (face i) := ⟨_, rfl⟩
    rw [← hps] at hp' ⊢
    obtain ⟨hpl, hpn⟩ := ptsN_lt hwf hr (f := face i)
    rw [← hps] at hpl hpn
    rw [hc] at x3
    have f3 : w.frozen? ⟨mi.cls, 3, none⟩ = false := frozen_of_row _ _ _ _ _ hk9
    obtain ⟨W1, hW1⟩ : ∃ X, X = w.setCell ⟨mi.cls, 3, none⟩ (.int .i64 1) := ⟨_, rfl⟩
    obtain ⟨hb1, hc1⟩ := hb.put hmi (o := into i) (f := face i) (n := 1) (w' := W1) (by rw [hW1]; exact set_grown _ _ _ _) ⟨k9, by rw [hW1]; exact heap_setCell_same _ _ _ _ _ _ hk9⟩
    rw [if_self6, if_self6] at hb1
    have HC1 := hid hc1
    have HPa := hid (parts_any hb1 hf (Nat.le_trans hlow hc1.size) hwf hmi hfl)
    rw [← hps] at HPa
    have HP' := hid hp'
    have HPl := hid hpl
    have HCe := hid hc
    clear hb hf hlow hwf hmi hfl hp hc hp' hpl hps hk9 hb1 hc1 hr
    go_enter Tryd.func64, Tryd.ntmps64
    go_upto_region 2 with fail
    rw [← hW1]
    clear hW1 x3 f3
    go_wp2_with fail
    refine HPa.out.mono ?_
    rintro e w2 ⟨v2, into2, rfl, o2, hb2, hf2, hc2⟩
    obtain ⟨ao, cap, hv2, hcp1, hcp2⟩ := o2.shape
    subst hv2
    unfold maxLen at hcp2
    have HO2 := hid o2
    have HB2 := hid hb2
    have HF2 := hid hf2
    have HC2 := hid (HC1.out.trans hc2)
    have HS2 := hid (Nat.le_trans HLo.out HC1.out.size)
    clear o2 hb2 hf2 hc2 HPa
    go_wp2
    go_loopw [15] (fun kv wr => ∃ k : Nat, k ≤ ps.length ∧ kv = .int .i64 k ∧ OwC6 wr W1.heap.size M (.slice ao ps.length cap) ps ∧ Bd6 wr B T M into2 face (fun j => if j = i then sumC cnt (ps.take k) else cnt j) ∧ Ch6 M w wr) (fun kv _ => ps.length - (intOf kv).toNat)
    case atStart => exact ⟨0, Nat.zero_le _, rfl, HO2.out, HB2.out, HC2.out⟩
    case round =>
      obtain ⟨k, hk, rfl, how, hbr, hcr⟩ := hrel
      have HOw := hid how
      have HBr := hid hbr
      have HCr := hid hcr
      by_cases hlt : k < ps.length
      · have hdk : decide ((k : Int) < (ps.length : Int)) = true := by simpa using hlt
        obtain ⟨p, hpk⟩ : ∃ p, ps[k]? = some p := ⟨_, List.getElem?_eq_getElem hlt⟩
        have hpm := List.mem_of_getElem? hpk
        obtain ⟨hpi, hp0, hp1⟩ := HP'.out p hpm
        obtain ⟨mp, hmp⟩ : ∃ m, M[p]? = some m := ⟨_, List.getElem?_eq_getElem (HPl.out p hpm)⟩
        obtain ⟨g, cp, hv, hge, hcl1, hcl2, hcell⟩ := own_last6 how hpk
        simp only [Value.slice.injEq] at hv
        obtain ⟨rfl, _, rfl⟩ := hv
        rw [clV_eq hmp] at hcell
        obtain ⟨kp, _, _, _, _, q3⟩ := hbr.clc hmp
        obtain ⟨ki, hki, _, _, _, s3⟩ := hbr.clc HMi.out
        simp only [if_neg hpi] at q3
        simp only [if_true] at s3 hki
        have hbd := sumC_bnd (cnt := cnt) (ps := ps.take k) (fun x hx => ⟨(HP'.out x (List.mem_of_mem_take hx)).2.1, (HP'.out x (List.mem_of_mem_take hx)).2.2⟩)
        obtain ⟨S, hS⟩ : ∃ S, S = sumC cnt (ps.take k) := ⟨_, rfl⟩
        rw [← hS] at s3 hki hbd
        have f3 : wr.frozen? ⟨mi.cls, 3, none⟩ = false := frozen_of_row _ _ _ _ _ hki
        have hw1 : IntKind.i64.wrap (S + cnt p) = S + cnt p := IntWalk.i64_in _ ⟨by omega, by omega⟩
        have HNx : Hid (sumC cnt (ps.take (k + 1)) = if S + cnt p < 513 then S + cnt p else 513) := by
          show _ = _
          rw [List.take_add_one, hpk, Option.toList_some, sumC_snoc, ← hS]
        have HDone : Hid (∀ (X : Int), X = (if S + cnt p < 513 then S + cnt p else 513) → ∀ W, W = (wr.setCell ⟨mi.cls, 3, none⟩ (.int .i64 X)).drew → OwC6 W W1.heap.size M (.slice (some ⟨g, 0, none⟩) ps.length cap) ps ∧ Bd6 W B T M into2 face (fun j => if j = i then sumC cnt (ps.take (k + 1)) else cnt j) ∧ Ch6 M w W) := fun X hX W hW => by
          have hgr : wr.grownBy W (some mi.cls) := by rw [hW]; exact grown_trans (set_grown _ _ _ _) (grown_of_below (drawn_below1 _) _)
          obtain ⟨hb5, hc5⟩ := HBr.out.put HMi.out (o := into2 i) (f := face i) (n := X) (w' := W) hgr ⟨ki, by rw [hW]; show (World.setCell _ _ _).heap[mi.cls]? = _; exact heap_setCell_same _ _ _ _ _ _ hki⟩
          rw [if_self6, if_self6] at hb5
          have hfun : (fun j => if j = i then X else if j = i then sumC cnt (ps.take k) else cnt j) = fun j => if j = i then sumC cnt (ps.take (k + 1)) else cnt j := by
            funext j
            by_cases e : j = i
            · rw [if_pos e, if_pos e, HNx.out, hX]
            · rw [if_neg e, if_neg e, if_neg e]
          rw [hfun] at hb5
          exact ⟨own_ch6 HOw.out hc5 (fun m hm => Nat.lt_of_lt_of_le (HBr.out.low m hm).1.2 HS2.out), hb5, HCr.out.trans hc5⟩
        clear how hbr hcr hki hpk hmp hS hpm
        go_wp2
        go_region
        obtain ⟨W, hW⟩ : ∃ X, X = (wr.setCell ⟨mi.cls, 3, none⟩ (.int .i64 (min (S + cnt p) 513))).drew := ⟨_, rfl⟩
        have HDn := hid (HDone.out _ (by split <;> omega) W hW)
        rw [← hW]
        clear hW hcell q3 s3 f3 hw1
        go_wp2
        go_roundw
        case rel => exact ⟨k + 1, hlt, by go_num, HDn.out.1, HDn.out.2.1, HDn.out.2.2⟩
        case measure => simp [intOf]; omega
      · have hdk : decide ((k : Int) < (ps.length : Int)) = false := by simpa using (show ¬ (k : Int) < (ps.length : Int) by omega)
        rw [List.take_of_length_le (by omega)] at HBr
        clear how hbr hcr
        go_wp2
        go_end0
        exact ⟨rfl, into2, HBr.out, HF2.out, HCr.out⟩
  · rw [if_neg hc]
    have hne : (cnt i != -1) = true := by rw [bne_iff_ne]; exact hc
    have hfe : (fun j => if j = i then cnt i else cnt j) = cnt := if_self6
    rw [hfe]
    clear hb hf hlow hwf hmi hfl hp hk9
    go_enter Tryd.func64, Tryd.ntmps64
    go_wp2
    (try simp only [Exit.inBlock, Exit.then])
    refine bodyPost_ret (results_none rfl _ _ _) rfl ?_
    exact ⟨rfl, into, HB.out, HF.out, Ch6.refl _ _⟩

end Go.Proofs.YtelacmijkbgliaaDoor

/- Counting the nodes of classes, plainly: what holds between the rounds of count. -/
namespace Go.Proofs.YtelacmijkbgliaaDoor
open Go.RowKit Go.Maps Go.BigFrame

/-- A length, cut off. -/
def cutL (n : Nat) : Int := if n < 513 then (n : Int) else 513

theorem sumC_len {cnt : Nat → Int} {ps : List Nat} {ts : List (List Int)} (hl : ts.length = ps.length) (h : ∀ (k p : Nat) (t : List Int), ps[k]? = some p → ts[k]? = some t → cnt p = cutL t.length) : sumC cnt ps = cutL (1 + ts.flatten.length) := by
  unfold sumC
  have key : ∀ (ps : List Nat) (ts : List (List Int)) (n : Nat), 1 ≤ n → ts.length = ps.length → (∀ (k p : Nat) (t : List Int), ps[k]? = some p → ts[k]? = some t → cnt p = cutL t.length) → ps.foldl (fun s p => if s + cnt p < 513 then s + cnt p else 513) (cutL n) = cutL (n + ts.flatten.length) := by
    intro ps
    induction ps with
    | nil =>
      intro ts n _ hl _
      have : ts = [] := List.eq_nil_of_length_eq_zero (by simpa using hl)
      subst this
      simp
    | cons p ps ih =>
      intro ts n hn hl h
      cases ts with
      | nil => simp at hl
      | cons t ts =>
        have h0 := h 0 p t rfl rfl
        have e : (if cutL n + cnt p < 513 then cutL n + cnt p else 513) = cutL (n + t.length) := by
          rw [h0]
          unfold cutL
          split <;> split <;> split <;> split <;> omega
        rw [List.foldl_cons, e, ih ts (n + t.length) (by omega) (by simpa using hl) (fun k p t hk ht => h (k + 1) p t (by simpa using hk) (by simpa using ht)), List.flatten_cons, List.length_append, Nat.add_assoc]
  have h1 := key ps ts 1 (by omega) hl h
  rw [← h1]
  rfl

theorem pts_iff {M : List Nm} {root face : Nat → Nat} {q d : Nat} : d ∈ ptsN M root (face q) ↔ Pt (M.map Nm.nd) root face q d := by
  unfold ptsN Pt
  cases hm : M[face q]? with
  | none =>
    simp only [Option.map_none, List.not_mem_nil, false_iff]
    rintro ⟨s, xs, x, h1, _⟩
    rw [List.getElem?_map, hm] at h1
    cases h1
  | some m =>
    simp only [Option.map_some]
    cases hn : m.nd with
    | var n =>
      simp only [List.not_mem_nil, false_iff]
      rintro ⟨s, xs, x, h1, _⟩
      rw [List.getElem?_map, hm, Option.map_some, hn] at h1
      cases h1
    | app c xs =>
      simp only
      constructor
      · intro h
        obtain ⟨x, hx, rfl⟩ := List.mem_map.1 h
        exact ⟨c, xs, x, by rw [List.getElem?_map, hm, Option.map_some, hn], hx, rfl⟩
      · rintro ⟨s, ys, x, h1, h2, rfl⟩
        rw [List.getElem?_map, hm, Option.map_some, hn] at h1
        cases h1
        exact List.mem_map.2 ⟨x, h2, rfl⟩

/-- What holds between the rounds. -/
structure CI (M : List Nm) (root face : Nat → Nat) (r : Nat) (cnt : Nat → Int) (O : List Nat) : Prop where
  st : ∀ i, i < M.length → root i = i → cnt i = 0 ∨ cnt i = -1 ∨ ∃ t, TmC (M.map Nm.nd) root face i t ∧ cnt i = cutL t.length
  el : ∀ q ∈ O, q < M.length ∧ root q = q
  op : ∀ q, q < M.length → root q = q → cnt q = -1 → ∃ s : Nat, O[s]? = some q ∧ (∀ d, Pt (M.map Nm.nd) root face q d → 0 < cnt d ∨ ∃ s' : Nat, s < s' ∧ O[s']? = some d) ∧ ∀ (s' e : Nat), s < s' → O[s']? = some e → Rch (M.map Nm.nd) root face q e ∧ e ≠ q
  go : 0 < cnt r ∨ O[0]? = some r
  dn : ∀ q, q < M.length → root q = q → 0 < cnt q → ∀ d, Pt (M.map Nm.nd) root face q d → 0 < cnt d

theorem cut_pos {n : Nat} (h : 0 < n) : 0 < cutL n ∧ cutL n ≤ 513 := by unfold cutL; split <;> omega

theorem tm_pos {L : List Nd} {root face : Nat → Nat} {c : Nat} {t : List Int} (h : TmC L root face c t) : 0 < t.length := by
  cases h <;> simp

theorem ci_pos {M : List Nm} {root face : Nat → Nat} {r : Nat} {cnt : Nat → Int} {O : List Nat} (h : CI M root face r cnt O) {i : Nat} (hi : i < M.length) (hr : root i = i) : cnt i ≤ 513 ∧ -1 ≤ cnt i := by
  rcases h.st i hi hr with h1 | h1 | ⟨t, ht, h1⟩
  · omega
  · omega
  · have := cut_pos (tm_pos ht)
    omega

theorem last_at {O' : List Nat} {q s d : Nat} (h : (O' ++ [q])[s]? = some d) : O'[s]? = some d ∨ (s = O'.length ∧ d = q) := by
  by_cases hs : s < O'.length
  · rw [List.getElem?_append_left hs] at h
    exact .inl h
  · have hl := (List.getElem?_eq_some_iff.1 h).1
    rw [List.length_append, List.length_singleton] at hl
    have e : s = O'.length := by omega
    subst e
    rw [List.getElem?_append_right (Nat.le_refl _), Nat.sub_self] at h
    cases h
    exact .inr ⟨rfl, rfl⟩

/-- A class that is counted is taken off. -/
theorem ci_pop {M : List Nm} {root face : Nat → Nat} {r q : Nat} {cnt : Nat → Int} {O' : List Nat} (h : CI M root face r cnt (O' ++ [q])) (h0 : cnt q ≠ 0) (h1 : cnt q ≠ -1) : CI M root face r cnt O' := by
  obtain ⟨hql, hqr⟩ := h.el q (by simp)
  have hqp : 0 < cnt q := by
    rcases h.st q hql hqr with h2 | h2 | ⟨t, ht, h2⟩
    · exact absurd h2 h0
    · exact absurd h2 h1
    · have := cut_pos (tm_pos ht)
      omega
  refine ⟨h.st, fun x hx => h.el x (by simp [hx]), fun x hx hxr hxc => ?_, ?_, h.dn⟩
  · obtain ⟨s, s1, s2, s3⟩ := h.op x hx hxr hxc
    rcases last_at s1 with s1 | ⟨_, rfl⟩
    · refine ⟨s, s1, fun d hd => ?_, fun s' e hs he => s3 s' e hs (by rw [List.getElem?_append_left (List.getElem?_eq_some_iff.1 he).1]; exact he)⟩
      rcases s2 d hd with h2 | ⟨s', h3, h4⟩
      · exact .inl h2
      · rcases last_at h4 with h4 | ⟨_, rfl⟩
        · exact .inr ⟨s', h3, h4⟩
        · exact .inl hqp
    · exact absurd hxc h1
  · rcases h.go with h2 | h2
    · exact .inl h2
    · rcases last_at h2 with h2 | ⟨_, rfl⟩
      · exact .inr h2
      · exact .inl hqp

/-- The parts of a class that is to be finished. -/
theorem ci_parts {M : List Nm} {root face : Nat → Nat} {r q : Nat} {cnt : Nat → Int} {O' : List Nat} (h : CI M root face r cnt (O' ++ [q])) (h1 : cnt q = -1) : ∀ d, Pt (M.map Nm.nd) root face q d → d ≠ q ∧ 0 < cnt d := fun d hd => by
  obtain ⟨hql, hqr⟩ := h.el q (by simp)
  obtain ⟨s, s1, s2, s3⟩ := h.op q hql hqr h1
  have hs : s = O'.length := by
    rcases last_at s1 with s4 | ⟨s4, _⟩
    · have hlt := (List.getElem?_eq_some_iff.1 s4).1
      exact absurd rfl (s3 O'.length q hlt (by rw [List.getElem?_append_right (Nat.le_refl _), Nat.sub_self]; rfl)).2
    · exact s4
  have hp : 0 < cnt d := by
    rcases s2 d hd with h2 | ⟨s', h3, h4⟩
    · exact h2
    · have := (List.getElem?_eq_some_iff.1 h4).1
      rw [List.length_append, List.length_singleton] at this
      omega
  exact ⟨fun e => by subst e; omega, hp⟩

/-- A class whose parts are counted is, and is taken off. -/
theorem ci_fin {sig : List Sy} {M : List Nm} (hL : NdOk sig (M.map Nm.nd)) {root face : Nat → Nat} (hc : ClOk (M.map Nm.nd) root face) {r q : Nat} {cnt : Nat → Int} {O' : List Nat} (h : CI M root face r cnt (O' ++ [q])) (h1 : cnt q = -1) : CI M root face r (fun j => if j = q then sumC cnt (ptsN M root (face q)) else cnt j) O' := by
  have hlen : (M.map Nm.nd).length = M.length := by rw [List.length_map]
  obtain ⟨hql, hqr⟩ := h.el q (by simp)
  have hps := ci_parts h h1
  have hfl := hc.face_lt q (by omega)
  rw [hqr] at hfl
  obtain ⟨mf, hmf⟩ : ∃ m, M[face q]? = some m := ⟨_, List.getElem?_eq_getElem (by omega)⟩
  have hLf : (M.map Nm.nd)[face q]? = some mf.nd := by rw [List.getElem?_map, hmf]; rfl
  have htm : ∃ t, TmC (M.map Nm.nd) root face q t ∧ sumC cnt (ptsN M root (face q)) = cutL t.length := by
    cases hn : mf.nd with
    | var n =>
      rw [hn] at hLf
      refine ⟨_, TmC.var hLf, ?_⟩
      unfold ptsN
      rw [hmf]
      simp only [Option.map_some, hn]
      rfl
    | app c xs =>
      rw [hn] at hLf
      have hall : ∀ x ∈ xs, ∃ t, TmC (M.map Nm.nd) root face (root x) t ∧ cnt (root x) = cutL t.length := fun x hx => by
        have hxl := Nat.lt_trans (hL.ahead _ _ _ hLf x hx) (List.getElem?_eq_some_iff.1 hLf).1
        obtain ⟨p1, p2⟩ := hps (root x) ⟨c, xs, x, hLf, hx, rfl⟩
        rcases h.st (root x) (by have := hc.lt x hxl; omega) (hc.idem x hxl) with h2 | h2 | h2
        · omega
        · omega
        · exact h2
      obtain ⟨ts, hts1, hts2⟩ : ∃ ts : List (List Int), ts.length = xs.length ∧ ∀ (k x : Nat) (t : List Int), xs[k]? = some x → ts[k]? = some t → TmC (M.map Nm.nd) root face (root x) t ∧ cnt (root x) = cutL t.length := by
        clear hLf hn hmf
        induction xs with
        | nil => exact ⟨[], rfl, fun k x t hk => by simp at hk⟩
        | cons x xs ih =>
          obtain ⟨t, ht⟩ := hall x (by simp)
          obtain ⟨ts, i1, i2⟩ := ih (fun y hy => hall y (by simp [hy]))
          refine ⟨t :: ts, by simp [i1], fun k y u hk hu => ?_⟩
          cases k with
          | zero =>
            simp only [List.getElem?_cons_zero, Option.some.injEq] at hk hu
            subst hk hu
            exact ht
          | succ k => exact i2 k y u (by simpa using hk) (by simpa using hu)
      refine ⟨c :: ts.flatten, TmC.app hLf hts1 (fun k x t hx ht => (hts2 k x t hx ht).1), ?_⟩
      unfold ptsN
      rw [hmf]
      simp only [Option.map_some, hn]
      rw [sumC_len (ts := ts) (by rw [List.length_map]; exact hts1) (fun k p t hp ht => by
        rw [List.getElem?_map] at hp
        cases hx : xs[k]? with
        | none => rw [hx] at hp; cases hp
        | some x =>
          rw [hx] at hp
          cases hp
          exact (hts2 k x t hx ht).2), List.length_cons, Nat.add_comm]
  obtain ⟨t, ht, hst⟩ := htm
  have hpos : 0 < sumC cnt (ptsN M root (face q)) := by rw [hst]; exact (cut_pos (tm_pos ht)).1
  have hup : ∀ d, 0 < cnt d → 0 < (if d = q then sumC cnt (ptsN M root (face q)) else cnt d) := fun d hd => by
    split
    · exact hpos
    · exact hd
  refine ⟨fun i hi hr => ?_, fun x hx => h.el x (by simp [hx]), fun x hx hxr hxc => ?_, ?_, fun x hx hxr hxc d hd => ?_⟩
  · by_cases e : i = q
    · subst e
      simp only [if_true]
      exact .inr (.inr ⟨t, ht, hst⟩)
    · simp only [if_neg e]
      exact h.st i hi hr
  · by_cases e : x = q
    · simp only [if_pos e] at hxc
      omega
    · simp only [if_neg e] at hxc
      obtain ⟨s, s1, s2, s3⟩ := h.op x hx hxr hxc
      rcases last_at s1 with s1 | ⟨_, rfl⟩
      · refine ⟨s, s1, fun d hd => ?_, fun s' e hs he => s3 s' e hs (by rw [List.getElem?_append_left (List.getElem?_eq_some_iff.1 he).1]; exact he)⟩
        rcases s2 d hd with h2 | ⟨s', h3, h4⟩
        · exact .inl (hup d h2)
        · rcases last_at h4 with h4 | ⟨_, rfl⟩
          · exact .inr ⟨s', h3, h4⟩
          · simp only [if_true]
            exact .inl hpos
      · exact absurd rfl e
  · rcases h.go with h2 | h2
    · exact .inl (hup r h2)
    · rcases last_at h2 with h2 | ⟨_, rfl⟩
      · exact .inr h2
      · simp only [if_true]
        exact .inl hpos
  · by_cases e : x = q
    · subst e
      exact hup d (hps d hd).2
    · rw [if_neg e] at hxc
      exact hup d (h.dn x hx hxr hxc d hd)

/-- A class is opened: its parts wait. -/
theorem ci_push {sig : List Sy} {M : List Nm} (hL : NdOk sig (M.map Nm.nd)) {root face : Nat → Nat} (hc : ClOk (M.map Nm.nd) root face) {r q : Nat} {cnt : Nat → Int} {O' : List Nat} (h : CI M root face r cnt (O' ++ [q])) (h0 : cnt q = 0) (hn : ∀ d ∈ ptsN M root (face q), (if d = q then (-1 : Int) else cnt d) ≠ -1) : CI M root face r (fun j => if j = q then -1 else cnt j) (O' ++ [q] ++ ptsN M root (face q)) := by
  have hlen : (M.map Nm.nd).length = M.length := by rw [List.length_map]
  obtain ⟨hql, hqr⟩ := h.el q (by simp)
  have hpr : ∀ d, Pt (M.map Nm.nd) root face q d → d < M.length ∧ root d = d := fun d ⟨s, xs, x, h1, h2, e⟩ => by
    have hxl := Nat.lt_trans (hL.ahead _ _ _ h1 x h2) (List.getElem?_eq_some_iff.1 h1).1
    subst e
    exact ⟨by have := hc.lt x hxl; omega, hc.idem x hxl⟩
  have hup : ∀ d, 0 < cnt d → 0 < (if d = q then (-1 : Int) else cnt d) := fun d hd => by
    split
    · rename_i e
      subst e
      omega
    · exact hd
  have hl1 : (O' ++ [q]).length = O'.length + 1 := by simp
  refine ⟨fun i hi hr => ?_, fun x hx => ?_, fun x hx hxr hxc => ?_, ?_, fun x hx hxr hxc d hd => ?_⟩
  · by_cases e : i = q
    · simp only [if_pos e]
      exact .inr (.inl trivial)
    · simp only [if_neg e]
      exact h.st i hi hr
  · rcases List.mem_append.1 hx with hx | hx
    · exact h.el x hx
    · exact hpr x (pts_iff.1 hx)
  · by_cases e : x = q
    · subst e
      refine ⟨O'.length, by rw [List.getElem?_append_left (by omega), List.getElem?_append_right (Nat.le_refl _), Nat.sub_self]; rfl, fun d hd => ?_, fun s' e9 hs he => ?_⟩
      · obtain ⟨k, hk⟩ := List.getElem?_of_mem (pts_iff.2 hd)
        exact .inr ⟨O'.length + 1 + k, by omega, by rw [List.getElem?_append_right (by omega), hl1, show O'.length + 1 + k - (O'.length + 1) = k by omega]; exact hk⟩
      · rw [List.getElem?_append_right (by omega)] at he
        have hm := List.mem_of_getElem? he
        refine ⟨.one (pts_iff.1 hm), fun e => ?_⟩
        subst e
        exact hn _ hm (by rw [if_pos rfl])
    · simp only [if_neg e] at hxc
      obtain ⟨s, s1, s2, s3⟩ := h.op x hx hxr hxc
      have hsl := (List.getElem?_eq_some_iff.1 s1).1
      have hsq : s < O'.length := by
        rcases last_at s1 with s4 | ⟨_, s4⟩
        · exact (List.getElem?_eq_some_iff.1 s4).1
        · exact absurd s4 e
      have hrq := (s3 O'.length q hsq (by rw [List.getElem?_append_right (Nat.le_refl _), Nat.sub_self]; rfl)).1
      refine ⟨s, by rw [List.getElem?_append_left hsl]; exact s1, fun d hd => ?_, fun s' e9 hs he => ?_⟩
      · rcases s2 d hd with h2 | ⟨s', h3, h4⟩
        · exact .inl (hup d h2)
        · exact .inr ⟨s', h3, by rw [List.getElem?_append_left (List.getElem?_eq_some_iff.1 h4).1]; exact h4⟩
      · by_cases hs2 : s' < (O' ++ [q]).length
        · rw [List.getElem?_append_left hs2] at he
          exact s3 s' e9 hs he
        · rw [List.getElem?_append_right (by omega)] at he
          have hm := List.mem_of_getElem? he
          refine ⟨.more hrq (pts_iff.1 hm), fun e8 => ?_⟩
          subst e8
          exact hn _ hm (by rw [if_neg e]; exact hxc)
  · rcases h.go with h2 | h2
    · exact .inl (hup r h2)
    · exact .inr (by rw [List.getElem?_append_left (List.getElem?_eq_some_iff.1 h2).1]; exact h2)
  · by_cases e : x = q
    · rw [if_pos e] at hxc
      omega
    · rw [if_neg e] at hxc
      exact hup d (h.dn x hx hxr hxc d hd)

/-- A part that is open: a circle. -/
theorem ci_circle {sig : List Sy} {M : List Nm} (hL : NdOk sig (M.map Nm.nd)) {root face : Nat → Nat} (hc : ClOk (M.map Nm.nd) root face) {r q d : Nat} {cnt : Nat → Int} {O' : List Nat} (h : CI M root face r cnt (O' ++ [q])) (hd : d ∈ ptsN M root (face q)) (hn : (if d = q then (-1 : Int) else cnt d) = -1) : ∃ c, c < M.length ∧ root c = c ∧ Rch (M.map Nm.nd) root face c c := by
  have hlen : (M.map Nm.nd).length = M.length := by rw [List.length_map]
  obtain ⟨hql, hqr⟩ := h.el q (by simp)
  have hp := pts_iff.1 hd
  by_cases e : d = q
  · subst e
    exact ⟨d, hql, hqr, .one hp⟩
  · rw [if_neg e] at hn
    obtain ⟨s9, xs, x, h1, h2, e9⟩ := hp
    have hxl := Nat.lt_trans (hL.ahead _ _ _ h1 x h2) (List.getElem?_eq_some_iff.1 h1).1
    have hdl : d < M.length ∧ root d = d := by subst e9; exact ⟨by have := hc.lt x hxl; omega, hc.idem x hxl⟩
    obtain ⟨s, s1, s2, s3⟩ := h.op d hdl.1 hdl.2 hn
    have hsq : s < O'.length := by
      rcases last_at s1 with s4 | ⟨_, s4⟩
      · exact (List.getElem?_eq_some_iff.1 s4).1
      · exact absurd s4 e
    have hrq := (s3 O'.length q hsq (by rw [List.getElem?_append_right (Nat.le_refl _), Nat.sub_self]; rfl)).1
    exact ⟨d, hdl.1, hdl.2, .more hrq (pts_iff.1 hd)⟩

/-- How many are not counted. -/
def nZero (n : Nat) (cnt : Nat → Int) : Nat := ((List.range n).filter fun i => decide (cnt i = 0)).length

theorem nZero_mark {n q : Nat} {cnt : Nat → Int} (hq : q < n) (h0 : cnt q = 0) : nZero n (fun j => if j = q then -1 else cnt j) < nZero n cnt := by
  unfold nZero
  refine filter_lt (fun i _ hp => ?_) (List.mem_range.2 hq) (decide_eq_true h0) (decide_eq_false (by simp only [if_true]; omega))
  have h1 := of_decide_eq_true hp
  by_cases e : i = q
  · simp only [if_pos e] at h1
    omega
  · simp only [if_neg e] at h1
    exact decide_eq_true h1

theorem nZero_less {n q : Nat} {cnt : Nat → Int} {x : Int} (hx : x ≠ 0) : nZero n (fun j => if j = q then x else cnt j) ≤ nZero n cnt := by
  unfold nZero
  refine filter_less fun i _ hp => ?_
  have h1 := of_decide_eq_true hp
  by_cases e : i = q
  · simp only [if_pos e] at h1
    exact absurd h1 hx
  · simp only [if_neg e] at h1
    exact decide_eq_true h1

theorem nZero_le (n : Nat) (cnt : Nat → Int) : nZero n cnt ≤ n := by
  unfold nZero
  have := List.length_filter_le (fun i => decide (cnt i = 0)) (List.range n)
  simpa using this

end Go.Proofs.YtelacmijkbgliaaDoor

/- count of package unify walked. -/
namespace Go.Proofs.YtelacmijkbgliaaDoor
open Go.RowKit Go.Maps Go.BigFrame

theorem snoc7 {α : Type} (l : List α) : l = [] ∨ ∃ xs x, l = xs ++ [x] := by
  rcases List.eq_nil_or_concat l with h | ⟨xs, x, h⟩
  · exact .inl h
  · exact .inr ⟨xs, x, by rw [h, List.concat_eq_append]⟩

set_option maxRecDepth 100000 in
set_option maxHeartbeats 3200000 in
theorem uCount_any {sig : List Sy} (har : ArOk sig) {w : World} {B T : Nat} {M : List Nm} {into : Nat → Option Nat} {face : Nat → Nat} {cnt : Nat → Int} {root rk : Nat → Nat} {r : Nat} {mr : Nm} (hL : NdOk sig (M.map Nm.nd)) (hok : ClOk (M.map Nm.nd) root face) (hn : M.length ≤ 4194304) (hlow : T ≤ w.heap.size) (hb : Bd6 w B T M into face cnt) (hf : Fr6 M.length into root rk) (hci : CI M root face r cnt [r]) (hmr : M[r]? = some mr) :
    Calls Tryd.prog 39 #[.pointer (some ⟨mr.cls, 0, none⟩)] w fun e w' => ∃ ok into' cnt', e = .returned (.bool ok) ∧ Bd6 w' B T M into' face cnt' ∧ Fr6 M.length into' root rk ∧ Ch6 M w w' ∧ (ok = false → ∃ c, c < M.length ∧ root c = c ∧ Rch (M.map Nm.nd) root face c c) ∧ (ok = true → CI M root face r cnt' []) := by
  have hlen : (M.map Nm.nd).length = M.length := by rw [List.length_map]
  obtain ⟨hwf, hsym⟩ := nd_wf har hL
  have hrl : ∀ i, i < M.length → root i < M.length := fun i hi => by have := hok.lt i (by omega); omega
  have hfl : ∀ i, i < M.length → root i = i → face i < M.length := fun i hi hr => by have := hok.face_lt i (by omega); rw [hr] at this; omega
  have HB := hid hb
  have HF := hid hf
  have HCI := hid hci
  have HLo := hid hlow
  have HL := hid hL
  have HOk := hid hok
  have HWf := hid hwf
  have HRl := hid hrl
  have HFl := hid hfl
  have HMr := hid hmr
  have hcw : ∀ m ∈ M, m.cls < w.heap.size := fun m hm => Nat.lt_of_lt_of_le (hb.low m hm).1.2 hlow
  have HCw := hid hcw
  clear hb hf hci hlow hL hok hwf hsym hrl hfl hmr har hlen hcw
  go_enter Tryd.func39, Tryd.ntmps39
  go_wp2
  go_loopg [3] (M.length * 1001 + 1) (fun k v wr => ∃ (O : List Nat) (into' : Nat → Option Nat) (cnt' : Nat → Int), OwC6 wr w.heap.size M v O ∧ Bd6 wr B T M into' face cnt' ∧ Fr6 M.length into' root rk ∧ CI M root face r cnt' O ∧ Ch6 M w wr ∧ nZero M.length cnt' * 1001 + O.length ≤ k ∧ k ≤ M.length * 1001 + 1)
  case atStart =>
    have hbA : Below w.heap.size w (w.alloc (.cells #[.pointer (some ⟨mr.cls, 0, none⟩)] 68)) := below_alloc _
    refine ⟨[r], into, cnt, ?_, HB.out.later hbA, HF.out, HCI.out, Ch6.of_below hbA, ?_, Nat.le_refl _⟩
    · refine ⟨rfl, .inr ⟨w.heap.size, 1, #[.pointer (some ⟨mr.cls, 0, none⟩)], rfl, Nat.le_refl _, heap_alloc_new _ _, Nat.le_refl _, by simp [maxLen], rfl, ?_⟩⟩
      simp only [List.map_cons, List.map_nil]
      rw [clV_eq HMr.out]
      rfl
    · have := nZero_le M.length cnt
      simp only [List.length_cons, List.length_nil]
      omega
  case round =>
    obtain ⟨O, into', cnt', how, hb', hf', hc', hch, hk1, hk2⟩ := hrel
    have HB' := hid hb'
    have HF' := hid hf'
    have HC' := hid hc'
    have HCh := hid hch
    rcases snoc7 O with rfl | ⟨Q, q, rfl⟩
    · obtain ⟨ao, cp, rfl⟩ : ∃ ao cp, u3 = .slice ao 0 cp := by
        rcases how.2 with ⟨h8, _⟩ | ⟨g8, c8, _, h8, _⟩
        · exact ⟨_, _, h8⟩
        · exact ⟨_, _, h8⟩
      clear how hb' hf' hc' hch hk1 hk2
      go_wp2
      go_ret
      exact ⟨true, into', cnt', rfl, HB'.out, HF'.out, HCh.out, fun h => (by cases h), fun _ => HC'.out⟩
    · obtain ⟨hql, hqr⟩ := hc'.el q (by simp)
      obtain ⟨mq, hmq⟩ : ∃ m, M[q]? = some m := ⟨_, List.getElem?_eq_getElem hql⟩
      obtain ⟨g, cp, hv, hge, hcp1, hcp2, hca⟩ := own_last6 how (k := Q.length) (x := q) (by simp)
      have hll : (Q ++ [q]).length = Q.length + 1 := by simp
      rw [hll] at hv hcp1
      subst hv
      have hct := own_cut6 (k := Q.length) (by rw [hll]; exact how) (by rw [hll]; omega)
      rw [List.take_left] at hct
      have HOw : Hid (OwC6 wr w.heap.size M (.slice (some ⟨g, 0, none⟩) (Q.length + 1) cp) (Q ++ [q])) := by rw [← hll]; rw [hll]; exact how
      obtain ⟨N, hN⟩ : ∃ N, N = Q.length := ⟨_, rfl⟩
      rw [← hN] at hca hct hcp1 HOw ⊢
      have HCt := hid hct
      have HMq := hid hmq
      have HN := hid hN
      have hNb : N ≤ 4294967296 := by rw [hN]; rw [hll] at hk1; omega
      have hw1 : IntKind.i64.wrap ((N : Int) + 1 - 1) = (N : Int) := by rw [IntWalk.i64_in _ ⟨by omega, by omega⟩]; omega
      have hw1' : IntKind.i64.wrap (N : Int) = (N : Int) := IntWalk.i64_in _ ⟨by omega, by omega⟩
      have hxc : N ≤ cp := by omega
      rw [clV_eq hmq] at hca
      obtain ⟨k9, hk9, _, _, _, x3⟩ := hb'.clc hmq
      have HQl := hid hql
      have HQr := hid hqr
      have HK1 : Hid (nZero M.length cnt' * 1001 + (Q.length + 1) ≤ gk) := by rw [hll] at hk1; exact hk1
      have HK2 := hid hk2
      have HFq := hid (HFl.out q hql hqr)
      by_cases h0 : cnt' q = 0
      · rw [h0] at x3
        have f3 : wr.frozen? ⟨mq.cls, 3, none⟩ = false := frozen_of_row _ _ _ _ _ hk9
        obtain ⟨W1, hW1⟩ : ∃ X, X = wr.setCell ⟨mq.cls, 3, none⟩ (.int .i64 (-1)) := ⟨_, rfl⟩
        obtain ⟨hb1, hc1⟩ := hb'.put hmq (o := into' q) (f := face q) (n := -1) (w' := W1) (by rw [hW1]; exact set_grown _ _ _ _) ⟨k9, by rw [hW1]; exact heap_setCell_same _ _ _ _ _ _ hk9⟩
        rw [if_self6, if_self6] at hb1
        have HC1 := hid (hch.trans hc1)
        have HO1 : Hid (OwC6 W1 w.heap.size M (.slice (some ⟨g, 0, none⟩) (N + 1) cp) (Q ++ [q])) := own_ch6 HOw.out hc1 HCw.out
        have HPa := hid (parts_any hb1 hf' (Nat.le_trans HLo.out (hch.trans hc1).size) HWf.out hmq HFq.out)
        obtain ⟨ps, hps⟩ : ∃ ps, ps = ptsN M root (face q) := ⟨_, rfl⟩
        rw [← hps] at HPa
        have HPs := hid hps
        obtain ⟨hpl, hpn⟩ := ptsN_lt HWf.out HRl.out (f := face q)
        rw [← hps] at hpl hpn
        have HPl := hid hpl
        have H0 := hid h0
        obtain ⟨cnt1, hcnt1⟩ : ∃ c : Nat → Int, c = fun j => if j = q then -1 else cnt' j := ⟨_, rfl⟩
        rw [← hcnt1] at HPa
        have HCn1 := hid hcnt1
        clear how hb' hf' hc' hch hk1 hk2 hll hct hmq hk9 hb1 hc1 hps hpl h0 hcnt1 hN hql hqr
        go_upto_region 8 with fail
        rw [← hW1]
        clear hW1 x3 f3 hca hw1 hw1'
        go_wp2_with fail
        refine HPa.out.mono ?_
        rintro e w2 ⟨v2, into2, rfl, o2, hb2, hf2, hc2⟩
        obtain ⟨ao, cap, hv2, hcap1, hcap2⟩ := o2.shape
        subst hv2
        unfold maxLen at hcap2
        have HO2 := hid o2
        have HB2 := hid hb2
        have HF2 := hid hf2
        have HC2 := hid (HC1.out.trans hc2)
        have HV2 : Hid (OwC6 w2 w.heap.size M (.slice (some ⟨g, 0, none⟩) (N + 1) cp) (Q ++ [q])) := own_ch6 HO1.out hc2 HCw.out
        have HW1s := hid HC1.out.size
        have HS12 := hid hc2.size
        have HNb : Hid (∀ j, Value.ownBlock (.slice (some ⟨g, 0, none⟩) (N + 1) cp) = some j → Value.ownBlock (.slice ao ps.length cap) ≠ some j) := fun j hj e => by
          have h1 := own_blk_lt HO1.out hj
          have h2 := own_blk HO2.out e
          omega
        clear o2 hb2 hf2 hc2 HPa HO1
        go_wp2
        go_loopw [3, 36] (fun v kv wy => ∃ k : Nat, k ≤ ps.length ∧ kv = .int .i64 k ∧ OwC6 wy w.heap.size M v (Q ++ [q] ++ ps.take k) ∧ OwC6 wy W1.heap.size M (.slice ao ps.length cap) ps ∧ Bd6 wy B T M into2 face cnt1 ∧ Ch6 M w wy ∧ W1.heap.size ≤ wy.heap.size ∧ (∀ j, v.ownBlock = some j → Value.ownBlock (.slice ao ps.length cap) ≠ some j) ∧ ∀ d ∈ ps.take k, cnt1 d ≠ -1) (fun _ kv _ => ps.length - (intOf kv).toNat)
        case atStart => exact ⟨0, Nat.zero_le _, rfl, by rw [List.take_zero, List.append_nil]; exact HV2.out, HO2.out, HB2.out, HC2.out, HS12.out, HNb.out, fun d hd => (by cases hd)⟩
        case round =>
          obtain ⟨k, hk, rfl, hov, hop, hby, hcy, hsy, hnb, hnm⟩ := hrel
          have HOv := hid hov
          have HOp := hid hop
          have HBy := hid hby
          have HCy := hid hcy
          have HNb2 := hid hnb
          have HNm := hid hnm
          by_cases hlt : k < ps.length
          · have hdk : decide ((k : Int) < (ps.length : Int)) = true := by simpa using hlt
            obtain ⟨p, hpk⟩ : ∃ p, ps[k]? = some p := ⟨_, List.getElem?_eq_getElem hlt⟩
            have hpm := List.mem_of_getElem? hpk
            obtain ⟨mp, hmp⟩ : ∃ m, M[p]? = some m := ⟨_, List.getElem?_eq_getElem (HPl.out p hpm)⟩
            obtain ⟨g2, cp2, hv, hge2, hcl1, hcl2, hcell⟩ := own_last6 hop hpk
            simp only [Value.slice.injEq] at hv
            obtain ⟨rfl, _, rfl⟩ := hv
            rw [clV_eq hmp] at hcell
            obtain ⟨kp, _, _, _, _, q3⟩ := hby.clc hmp
            obtain ⟨ao3, cap3, hv3, hcp31, hcp32⟩ := hov.shape
            have hlen3 : (Q ++ [q] ++ ps.take k).length = N + 1 + k := by rw [List.length_append, List.length_append, List.length_take, List.length_singleton, HN.out]; omega
            rw [hlen3] at hv3 hcp31
            subst hv3
            unfold maxLen at hcp32
            by_cases hm : cnt1 p = -1
            · rw [hm] at q3
              have HCi : Hid (∃ c, c < M.length ∧ root c = c ∧ Rch (M.map Nm.nd) root face c c) := ci_circle HL.out HOk.out HC'.out (d := p) (by rw [← HPs.out]; exact hpm) (by rw [HCn1.out] at hm; exact hm)
              clear hov hop hby hcy hnb hnm hpk hpm hmp hlen3 hm
              go_wp2
              go_ret
              exact ⟨false, into2, cnt1, rfl, HBy.out, HF2.out, HCy.out, fun _ => HCi.out, fun h => (by cases h)⟩
            · have hmb : (cnt1 p == -1) = false := by rw [beq_eq_false_iff_ne]; exact hm
              obtain ⟨WA, hWA⟩ : ∃ X, X = wr.alloc (.cells #[.pointer (some ⟨mp.cls, 0, none⟩)] 68) := ⟨_, rfl⟩
              have bA : Below wr.heap.size wr WA := by rw [hWA]; exact below_alloc _
              obtain ⟨v5, w5, hr5, o5, g5, d5⟩ := join_cls6 102 (ao := some ⟨wr.heap.size, 0, none⟩) (cap := 1) (ys := [p]) (own_ch6 hov (Ch6.of_below (M := M) bA) HCw.out) (.inr ⟨wr.heap.size, 0, rfl, fun j y hj => by
                match j, hj with
                | 0, hj =>
                  cases hj
                  rw [clV_eq hmp, hWA]
                  exact cell_new rfl
                | j + 1, hj => simp at hj⟩) (Nat.le_trans hcy.size bA.size) (by rw [hlen3]; simp only [List.length_cons, List.length_nil]; omega)
              have hnx : Q ++ [q] ++ ps.take (k + 1) = (Q ++ [q] ++ ps.take k) ++ [p] := by rw [take_get hpk, List.append_assoc (Q ++ [q])]
              rw [← hnx] at o5
              have hB5 : ∀ b, b < w.heap.size → w5.heap[b]? = wr.heap[b]? := fun b hb9 => by
                refine (g5.block b (Nat.lt_of_lt_of_le hb9 (Nat.le_trans hcy.size bA.size)) (fun e9 => ?_)).trans (bA.block b (Nat.lt_of_lt_of_le hb9 hcy.size))
                have := own_blk hov e9.symm
                omega
              have hpb : ∀ j, Value.ownBlock (.slice (some ⟨g2, 0, none⟩) ps.length cap) = some j → j < wr.heap.size := fun j hj => own_blk_lt hop hj
              have HO5p : Hid (OwC6 w5 W1.heap.size M (.slice (some ⟨g2, 0, none⟩) ps.length cap) ps) := own_grown6 (own_ch6 hop (Ch6.of_below (M := M) bA) (fun m hm9 => Nat.lt_of_lt_of_le (HCw.out m hm9) HW1s.out)) g5 (.inr fun e => by
                cases h9 : Value.ownBlock (.slice ao3 (N + 1 + k) cap3) with
                | none => rw [h9] at e; cases e
                | some j => exact hnb j h9 (e.trans h9))
              have HB5 := hid (hby.keep fun b hb9 => hB5 b (Nat.lt_of_lt_of_le hb9 HLo.out))
              have HC5 : Hid (Ch6 M w w5) := ⟨(g5.os.trans bA.os).trans hcy.os, (g5.tape.trans bA.tape).trans hcy.tape, (g5.output.trans bA.output).trans hcy.output, Nat.le_trans hcy.size (Nat.le_trans bA.size g5.size), fun b hb9 hm9 => (hB5 b hb9).trans (hcy.block b hb9 hm9)⟩
              have HS5 : Hid (W1.heap.size ≤ w5.heap.size) := Nat.le_trans hsy (Nat.le_trans bA.size g5.size)
              have HN5 : Hid (∀ j, v5.ownBlock = some j → Value.ownBlock (.slice (some ⟨g2, 0, none⟩) ps.length cap) ≠ some j) := fun j hj e => by
                rcases d5 with d5 | d5
                · exact hnb j (d5.symm.trans hj) e
                · rw [d5] at hj
                  have := hpb j e
                  have h8 := bA.size
                  cases hj
                  omega
              have HM5 : Hid (∀ d ∈ ps.take (k + 1), cnt1 d ≠ -1) := fun d hd => by
                rw [take_get hpk] at hd
                rcases List.mem_append.1 hd with hd | hd
                · exact hnm d hd
                · rw [List.mem_singleton] at hd
                  subst hd
                  exact hm
              have HR5 := hid hr5
              have HO5 := hid o5
              clear hov hop hby hcy hnb hnm hpk hpm hmp hlen3 hm hr5 o5 g5 d5 hnx hB5 hpb bA
              go_wp2_with (first
                | (rw [← hWA]; at_builtin; refine wpList_append_run rfl _ _ _ rfl _ _ rfl rfl HR5.out ?_))
              go_roundw
              case rel => exact ⟨k + 1, hlt, by go_num, HO5.out, HO5p.out, HB5.out, HC5.out, HS5.out, HN5.out, HM5.out⟩
              case measure => simp [intOf]; omega
          · have hdk : decide ((k : Int) < (ps.length : Int)) = false := by simpa using (show ¬ (k : Int) < (ps.length : Int) by omega)
            have hke : ps.take k = ps := List.take_of_length_le (by omega)
            rw [hke] at HOv HNm
            have HCi2 : Hid (CI M root face r cnt1 (Q ++ [q] ++ ps)) := by
              have h9 := ci_push HL.out HOk.out HC'.out H0.out (fun d hd => by have h8 := HNm.out d (by rw [HPs.out]; exact hd); rw [HCn1.out] at h8; exact h8)
              rw [← HPs.out, ← HCn1.out] at h9
              exact h9
            have HNz : Hid (nZero M.length cnt1 < nZero M.length cnt') := by
              have h9 := nZero_mark (n := M.length) HQl.out H0.out
              rw [← HCn1.out] at h9
              exact h9
            clear hov hop hby hcy hnb hnm hke
            go_wp2
            go_roundg (nZero M.length cnt1 * 1001 + (Q ++ [q] ++ ps).length)
            case measure => have h1 := HK1.out; have h2 := HNz.out; rw [List.length_append, List.length_append, List.length_singleton]; omega
            case rel => exact ⟨Q ++ [q] ++ ps, into2, cnt1, HOv.out, HBy.out, HF2.out, HCi2.out, HCy.out, Nat.le_refl _, by have h1 := HK1.out; have h2 := HNz.out; have h3 := HK2.out; rw [List.length_append, List.length_append, List.length_singleton]; omega⟩
      · have hne0 : (cnt' q != 0) = true := by rw [bne_iff_ne]; exact h0
        have HPt : Hid (cnt' q = -1 → ∀ p ∈ ptsN M root (face q), p ≠ q ∧ 0 ≤ cnt' p ∧ cnt' p ≤ 513) := fun h1 p hp => by
          obtain ⟨a1, a2⟩ := ci_parts hc' h1 p (pts_iff.1 hp)
          have hpl := (ptsN_lt HWf.out HRl.out (f := face q)).1 p hp
          have hpr : root p = p := by
            obtain ⟨s, xs, x, e1, e2, rfl⟩ := pts_iff.1 hp
            exact HOk.out.idem x (Nat.lt_trans (HL.out.ahead _ _ _ e1 x e2) (List.getElem?_eq_some_iff.1 e1).1)
          exact ⟨a1, by omega, (ci_pos hc' hpl hpr).1⟩
        have HFi := hid (finish_any hb' hf' (Nat.le_trans HLo.out hch.size) HWf.out HRl.out hmq HFq.out HPt.out)
        have H0 := hid h0
        clear how hb' hf' hc' hch hk1 hk2 hll hct hmq hk9 h0 hN hql hqr
        go_wp2_with fail
        refine HFi.out.mono ?_
        rintro e w2 ⟨rfl, into2, hb2, hf2, hc2⟩
        have HO2 : Hid (OwC6 w2 w.heap.size M (.slice (some ⟨g, 0, none⟩) N cp) Q) := own_ch6 HCt.out hc2 HCw.out
        have HC2 := hid (HCh.out.trans hc2)
        have HF2 := hid hf2
        have HNew : Hid (∃ cnt2, Bd6 w2 B T M into2 face cnt2 ∧ CI M root face r cnt2 Q ∧ nZero M.length cnt2 ≤ nZero M.length cnt') := by
          by_cases h1 : cnt' q = -1
          · rw [if_pos h1] at hb2
            have hci2 := ci_fin HL.out HOk.out HC'.out h1
            refine ⟨_, hb2, hci2, nZero_less ?_⟩
            have := (sumC_bnd (cnt := cnt') (ps := ptsN M root (face q)) (fun p hp => ⟨(HPt.out h1 p hp).2.1, (HPt.out h1 p hp).2.2⟩)).1
            omega
          · rw [if_neg h1, if_self6] at hb2
            exact ⟨cnt', hb2, ci_pop HC'.out H0.out h1, Nat.le_refl _⟩
        clear hb2 hf2 hc2 HFi hca x3 hw1 hw1' hne0
        go_wp2
        obtain ⟨cnt2, n1, n2, n3⟩ := HNew.out
        go_roundg (nZero M.length cnt2 * 1001 + Q.length)
        case measure => have := HK1.out; omega
        case rel => exact ⟨Q, into2, cnt2, by rw [← HN.out] at *; exact HO2.out, n1, HF2.out, n2, HC2.out, Nat.le_refl _, by have h1 := HK1.out; have h2 := HK2.out; omega⟩

end Go.Proofs.YtelacmijkbgliaaDoor
