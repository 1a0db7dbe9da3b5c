/- What the document's Canon answers. -/
import Derived.Test.YtifpanfgojfbkaaDoorTSpl
import Derived.Test.YtifpanfgojfbkaaDoorTCanonD
namespace Go.Proofs.YtifpanfgojfbkaaDoor
open Go.RowKit Go.Maps Go.BigFrame

/-- The codes met, the row under way, the rows done: all the call's own, apart from one another. -/
structure St (w0 wy : World) (ov : Value) (i : Nat) (vs : List Value) (dn : List (List Int)) (x3 : Value) (met : List Int) (x6 : Value) (ro : List Int) : Prop where
  m : OwI wy w0.heap.size x3 met
  r : OwI wy w0.heap.size x6 ro
  d : Dis x3 x6
  dv : ∀ u ∈ vs, Dis u x3 ∧ Dis u x6
  or : OwR wy w0.heap.size vs dn
  ow : wy.ownsRow w0.heap.size 30 1 ov i vs
  bl : Below w0.heap.size w0 wy

theorem OwR.mem {w : World} {base : Nat} {vs : List Value} {l : List (List Int)} (h : OwR w base vs l) {u : Value} (hu : u ∈ vs) : ∃ x, OwI w base u x := by
  obtain ⟨j, hj, rfl⟩ := List.getElem_of_mem hu
  obtain ⟨x, hx⟩ : ∃ x, l[j]? = some x := ⟨_, List.getElem?_eq_getElem (by rw [← h.1]; exact hj)⟩
  exact ⟨x, h.2 j _ x (List.getElem?_eq_getElem hj) hx⟩

theorem OwR.kept {w w' : World} {base : Nat} {vs : List Value} {l : List (List Int)} {row : Option Nat} (h : OwR w base vs l) (hg : w.grownBy w' row) (hr : ∀ u ∈ vs, u.ownBlock = none ∨ u.ownBlock ≠ row) : OwR w' base vs l :=
  ⟨h.1, fun j u x hj hx => (h.2 j u x hj hx).kept hg (hr u (List.mem_of_getElem? hj))⟩

theorem OwR.later {w w' : World} {base : Nat} {vs : List Value} {l : List (List Int)} (h : OwR w base vs l) (hb : Below w.heap.size w w') : OwR w' base vs l :=
  ⟨h.1, fun j u x hj hx => (h.2 j u x hj hx).later hb⟩

theorem St.later {w0 wy wz : World} {ov : Value} {i : Nat} {vs : List Value} {dn : List (List Int)} {x3 x6 : Value} {met ro : List Int} (h : St w0 wy ov i vs dn x3 met x6 ro) (hb : Below wy.heap.size wy wz) : St w0 wz ov i vs dn x3 met x6 ro :=
  ⟨h.m.later hb, h.r.later hb, h.d, h.dv, h.or.later hb, ownsRow_later h.ow hb, below_step h.bl hb⟩

theorem St.pushRow (ty : TypeId) {w0 wy : World} {ov : Value} {i : Nat} {vs : List Value} {dn : List (List Int)} {x3 x6 : Value} {met ro : List Int} {c : Int} (h : St w0 wy ov i vs dn x3 met x6 ro) (h1 : -9223372036854775808 ≤ c) (h2 : c ≤ 9223372036854775807) (hl : (ro.length + 1) * 8 ≤ 140737488355328) :
    ∃ v' w', (Builtin.append_ #[30, 30] ty #[x6, .slice (some ⟨wy.heap.size, 0, none⟩) 1 1]).run Tryd.prog (wy.alloc (.cells #[.int .i64 c] 3)) = .ok v' w' ∧ St w0 w' ov i vs dn x3 met v' (ro ++ [c]) := by
  obtain ⟨v', w', hr, ho, hg, hb⟩ := join_one ty h.r h1 h2 h.bl.size hl
  have ha := h.later (below_alloc (.cells #[.int .i64 c] 3))
  refine ⟨v', w', hr, ?_⟩
  have hs := (below_alloc (w := wy) (.cells #[.int .i64 c] 3)).size
  exact ⟨ha.m.kept hg ha.d.keep, ho, ha.d.grow h.m hs hb, fun u hu => ⟨(h.dv u hu).1, by obtain ⟨x, hx⟩ := h.or.mem hu; exact (h.dv u hu).2.grow hx hs hb⟩,
    ha.or.kept hg fun u hu => (h.dv u hu).2.keep, ha.ow.kept hg (ownsRow_apart ha.ow ha.r.2 (by decide)), ha.bl.grown hg ha.bl.size (fun j hj => own_blk h.r.2 hj)⟩

theorem St.pushMet (ty : TypeId) {w0 wy : World} {ov : Value} {i : Nat} {vs : List Value} {dn : List (List Int)} {x3 x6 : Value} {met ro : List Int} {c : Int} (h : St w0 wy ov i vs dn x3 met x6 ro) (h1 : -9223372036854775808 ≤ c) (h2 : c ≤ 9223372036854775807) (hl : (met.length + 1) * 8 ≤ 140737488355328) :
    ∃ v' w', (Builtin.append_ #[30, 30] ty #[x3, .slice (some ⟨wy.heap.size, 0, none⟩) 1 1]).run Tryd.prog (wy.alloc (.cells #[.int .i64 c] 3)) = .ok v' w' ∧ St w0 w' ov i vs dn v' (met ++ [c]) x6 ro := by
  obtain ⟨v', w', hr, ho, hg, hb⟩ := join_one ty h.m h1 h2 h.bl.size hl
  have ha := h.later (below_alloc (.cells #[.int .i64 c] 3))
  refine ⟨v', w', hr, ?_⟩
  have hs := (below_alloc (w := wy) (.cells #[.int .i64 c] 3)).size
  exact ⟨ho, ha.r.kept hg ha.d.symm.keep, (ha.d.symm.grow h.r hs hb).symm, fun u hu => ⟨by obtain ⟨x, hx⟩ := h.or.mem hu; exact (h.dv u hu).1.grow hx hs hb, (h.dv u hu).2⟩,
    ha.or.kept hg fun u hu => (h.dv u hu).1.keep, ha.ow.kept hg (ownsRow_apart ha.ow ha.m.2 (by decide)), ha.bl.grown hg ha.bl.size (fun j hj => own_blk h.m.2 hj)⟩

theorem St.push (ty : TypeId) {w0 wy : World} {ov : Value} {i : Nat} {vs : List Value} {dn : List (List Int)} {x3 x6 : Value} {met ro : List Int} (h : St w0 wy ov i vs dn x3 met x6 ro) (hl : (i + 1) * 24 ≤ 140737488355328) :
    ∃ v' w', (Builtin.append_ #[37, 37] ty #[ov, .slice (some ⟨wy.heap.size, 0, none⟩) 1 1]).run Tryd.prog (wy.alloc (.cells #[x6] 30)) = .ok v' w' ∧ w'.ownsRow w0.heap.size 30 1 v' (i + 1) (vs ++ [x6]) ∧ OwR w' w0.heap.size (vs ++ [x6]) (dn ++ [ro]) ∧ OwI w' w0.heap.size x3 met ∧ (∀ u ∈ vs ++ [x6], Dis u x3) ∧ Below w0.heap.size w0 w' := by
  obtain ⟨v', w', hr, ho, hg⟩ := join_row ty (u := x6) h.ow h.bl.size hl (by obtain ⟨_, _, rfl, _⟩ := h.r.shape; rfl)
  have ha := h.later (below_alloc (.cells #[x6] 30))
  have hk : ∀ {u : Value} {x : List Int}, OwI (wy.alloc (.cells #[x6] 30)) w0.heap.size u x → OwI w' w0.heap.size u x := fun {u x} hu => hu.kept hg (ownsRow_apart hu.2 ha.ow (by decide))
  refine ⟨v', w', hr, ho, ⟨by rw [List.length_append, List.length_append, h.or.1]; rfl, fun j u x hj hx => ?_⟩, hk ha.m, fun u hu => ?_, ha.bl.grown hg ha.bl.size (fun j hj => own_blk h.ow hj)⟩
  · by_cases hjl : j < vs.length
    · rw [List.getElem?_append_left hjl] at hj
      rw [List.getElem?_append_left (by rw [← h.or.1]; exact hjl)] at hx
      exact hk (ha.or.2 j u x hj hx)
    · rw [List.getElem?_append_right (by omega)] at hj
      rw [List.getElem?_append_right (by rw [← h.or.1]; omega), ← h.or.1] at hx
      have hj0 : j - vs.length = 0 := by
        have := (List.getElem?_eq_some_iff.1 hj).1
        simp at this
        omega
      rw [hj0] at hj hx
      simp at hj hx
      subst hj
      subst hx
      exact hk ha.r
  · rcases List.mem_append.1 hu with hu | hu
    · exact (h.dv u hu).1
    · simp at hu
      subst hu
      exact h.d.symm

theorem empty_rowg {w : World} {base g : Nat} (t : TypeId) (hb : base ≤ w.heap.size) (hg : g = w.heap.size) : (w.alloc (.cells #[] t)).ownsRow base t 1 (.slice (some ⟨g, 0, none⟩) 0 0) 0 [] := by
  subst hg
  exact empty_row t hb

/-- A row that is begun. -/
theorem St.begin {w0 wr : World} {ov : Value} {i : Nat} {vs : List Value} {dn : List (List Int)} {x3 : Value} {met : List Int} (hm : OwI wr w0.heap.size x3 met) (hd : ∀ u ∈ vs, Dis u x3) (hor : OwR wr w0.heap.size vs dn) (how : wr.ownsRow w0.heap.size 30 1 ov i vs) (hb : Below w0.heap.size w0 wr) :
    St w0 (wr.alloc (.cells #[] 3)) ov i vs dn x3 met (.slice (some ⟨wr.heap.size, 0, none⟩) 0 0) [] := by
  have hn : ∀ {u : Value} {x : List Int}, OwI wr w0.heap.size u x → Dis u (.slice (some ⟨wr.heap.size, 0, none⟩) 0 0) := fun {u x} hu g h1 h2 => by
    have := own_blk_lt hu.2 h1
    simp only [Value.ownBlock, Option.some.injEq] at h2
    omega
  exact ⟨hm.later (below_alloc _), ⟨fun k x hk => (by simp at hk), empty_row _ hb.size⟩, hn hm, fun u hu => ⟨hd u hu, by obtain ⟨x, hx⟩ := hor.mem hu; exact hn hx⟩, hor.later (below_alloc _), ownsRow_later how (below_alloc _), below_step hb (below_alloc _)⟩

theorem idx_at {met : List Int} {n : Nat} {c : Int} (h1 : met[n]? = some c) (h2 : c ∉ met.take n) : met.idxOf c = n := by
  have hlt := (List.getElem?_eq_some_iff.1 h1).1
  have e : met = met.take n ++ c :: met.drop (n + 1) := by
    rw [← drop_get h1, List.take_append_drop]
  rw [e, List.idxOf_append, if_neg h2, List.idxOf_cons_self, List.length_take]
  omega

theorem docN_old {met : List Int} {n : Nat} {c : Int} (h1 : met[n]? = some c) (h2 : c ∉ met.take n) : docN met (-1 - c) = ((n : Int), met) := by
  unfold docN
  rw [show -1 - (-1 - c) = c by omega, if_pos (List.mem_of_getElem? h1), idx_at h1 h2]

theorem docN_new {met : List Int} {c : Int} (h : c ∉ met) : docN met (-1 - c) = ((met.length : Int), met ++ [c]) := by
  unfold docN
  rw [show -1 - (-1 - c) = c by omega, if_neg h]

theorem renG_neg {σ : Type} (φ : σ → Int → Int × σ) (s : σ) (c : Int) (t : List Int) (h : c < 0) : renG φ s (c :: t) = ((-1 - (φ s (-1 - c)).1) :: (renG φ (φ s (-1 - c)).2 t).1, (renG φ (φ s (-1 - c)).2 t).2) := by simp only [renG, if_pos h]

theorem renG_pos {σ : Type} (φ : σ → Int → Int × σ) (s : σ) (c : Int) (t : List Int) (h : ¬ c < 0) : renG φ s (c :: t) = (c :: (renG φ s t).1, (renG φ s t).2) := by simp only [renG, if_neg h]

/-- How far a row is. -/
def Far (met t met' ro : List Int) (k : Nat) : Prop := renG docN met t = (ro ++ (renG docN met' (t.drop k)).1, (renG docN met' (t.drop k)).2) ∧ ro.length = k ∧ met'.length ≤ met.length + k

set_option maxRecDepth 100000 in
set_option maxHeartbeats 1600000 in
theorem refCanon_any (v : Value) (l : List (List Int)) (w : World) (h : Rs w v l) (hn : l.length ≤ 1048576) (hsum : (l.map List.length).sum ≤ 1048576) :
    Calls Tryd.prog 20 #[v] w fun e w' => ∃ v' vs, e = .returned v' ∧ w'.ownsRow w.heap.size 30 1 v' l.length vs ∧ OwR w' w.heap.size vs (canL l) ∧ Below w.heap.size w w' := by
  obtain ⟨ao, cap, rfl, hao, hca, _⟩ := Row.flat h
  unfold maxLen at hca
  have HR := hid h
  have HCd := hid (canL_doc l)
  clear h
  go_enter Tryd.func20, Tryd.ntmps20
  go_wp2
  go_loopw [3, 4, 5] (fun x3 ov iv wr => ∃ (i : Nat) (met : List Int) (vs : List Value) (dn : List (List Int)), i ≤ l.length ∧ iv = .int .i64 i ∧ dn.length = i ∧ canL l = dn ++ canD met (l.drop i) ∧ met.length ≤ ((l.take i).map List.length).sum ∧ OwI wr w.heap.size x3 met ∧ (∀ u ∈ vs, Dis u x3) ∧ wr.ownsRow w.heap.size 30 1 ov i vs ∧ OwR wr w.heap.size vs dn ∧ Below w.heap.size w wr) (fun _ _ iv _ => l.length - (intOf iv).toNat)
  case atStart => exact ⟨0, [], [], [], Nat.zero_le _, rfl, rfl, HCd.out, by simp, OwI.later ⟨fun k x hk => (by simp at hk), empty_row _ (Nat.le_refl _)⟩ (below_alloc _), fun u hu => (by cases hu), empty_rowg _ (below_alloc _).size (by simp), ⟨rfl, fun j u x hj => (by simp at hj)⟩, below_step (below_alloc _) (below_alloc _)⟩
  case round =>
    obtain ⟨i, met, vs, dn, hi, rfl, hdn, hcan, hml, hm, hd, how, hor, hbl⟩ := hrel
    have HDn := hid hdn
    have HCan := hid hcan
    have HMl := hid hml
    have HM := hid hm
    have HD := hid hd
    have HOw := hid how
    have HOr := hid hor
    have HBl := hid hbl
    clear hdn hcan hml hm hd how hor
    by_cases hlt : i < l.length
    · obtain ⟨g, off, ra, t, rc, rfl, hti, hc0, hit, ht8⟩ := HR.out.at hlt
      have hcr := (Kp.of_below hbl).cell _ _ hc0
      have HTi := hid hti
      have HIt := hid hit
      have HSum : Hid (met.length + t.length ≤ ((l.take (i + 1)).map List.length).sum ∧ ((l.take (i + 1)).map List.length).sum ≤ 1048576) := by
        have h1 := HMl.out
        have h2 := sum_take l (i + 1)
        refine ⟨?_, by omega⟩
        rw [take_get hti]
        simp only [List.map_append, List.map_cons, List.map_nil, List.sum_append, List.sum_cons, List.sum_nil]
        omega
      have hs1 := HSum.out
      have HDr : Hid (l.drop i = t :: l.drop (i + 1)) := drop_get hti
      have HSt := hid (St.begin HM.out HD.out HOr.out HOw.out HBl.out)
      clear hti hit hbl
      go_wp2_with fail
      go_loopw [3, 6, 7] (fun x3 x6 kv wy => ∃ (k : Nat) (met' ro : List Int), k ≤ t.length ∧ kv = .int .i64 k ∧ Far met t met' ro k ∧ St w wy u4 i vs dn x3 met' x6 ro) (fun _ _ kv _ => t.length - (intOf kv).toNat)
      case atStart => exact ⟨0, met, [], Nat.zero_le _, rfl, ⟨rfl, rfl, by omega⟩, HSt.out⟩
      case round =>
        obtain ⟨k, met', ro, hk, rfl, hfar, hst⟩ := hrel
        have hby := hst.bl
        have HFar := hid hfar
        have HSy := hid hst
        have HBy := hid hby
        have hrl : ro.length = k := hfar.2.1
        have hmb : met'.length ≤ met.length + k := hfar.2.2
        have hd0 := (Kp.of_below hby).cell _ _ hc0
        obtain ⟨mo, mc, hmv, hmc1, hmc2⟩ := hst.m.shape
        obtain ⟨oo, oc, hov, hoc1, hoc2⟩ := hst.r.shape
        rw [hrl] at hov hoc1
        subst hmv
        subst hov
        unfold maxLen at hmc2 hoc2
        clear hfar hst HSt HM HOw HOr hcr
        by_cases hkt : k < t.length
        · obtain ⟨g2, off2, c, rfl, hx1, hx2, hx3, hx4⟩ := (HIt.out.kp (Kp.of_below hby)).at hkt
          have HDt : Hid (t.drop k = c :: t.drop (k + 1)) := drop_get hx1
          clear hx1 hby
          by_cases hcn : c < 0
          · have hc0n : ¬ 0 ≤ c := by omega
            go_wp2_with fail
            go_loopw [8] (fun nv wz => ∃ n : Nat, n ≤ met'.length ∧ nv = .int .i64 n ∧ c ∉ met'.take n ∧ Below wr.heap.size wr wz) (fun nv _ => met'.length - (intOf nv).toNat)
            case atStart => exact ⟨0, Nat.zero_le _, rfl, by simp, Below.refl _ _⟩
            case round =>
              obtain ⟨n, hnl, rfl, hno, hbz⟩ := hrel
              have HNo := hid hno
              have HSz := hid (HSy.out.later hbz)
              have he0 := (Kp.of_below hbz).cell _ _ hd0
              have he2 := (Kp.of_below hbz).cell _ _ hx2
              clear hno
              by_cases hnm : n < met'.length
              · obtain ⟨g3, off3, y, hq, hy1, hy2, hy3, hy4⟩ := HSz.out.m.is.at hnm
                have HY := hid hy1
                subst hq
                clear hy1
                by_cases hyc : y = c
                · subst hyc
                  have hyb : (y != y) = false := by simp
                  have hne : ((n : Int) == (met'.length : Int)) = false := by rw [beq_eq_false_iff_ne]; omega
                  have HN : Hid (docN met' (-1 - y) = ((n : Int), met')) := docN_old HY.out HNo.out
                  go_wp2
                  go_quiet (fail)
                  have HSq := hid (HSz.out.later (below_drewN (Below.refl _ _) nq))
                  obtain ⟨z, hz⟩ : ∃ z : Int, z = -1 - (n : Int) := ⟨_, rfl⟩
                  have hwz : IntKind.i64.wrap (-1 - (n : Int)) = z := by rw [hz]; exact IntWalk.i64_in _ ⟨by omega, by omega⟩
                  obtain ⟨v6, w6, hr6, hs6⟩ := HSq.out.pushRow 30 (c := z) (by omega) (by omega) (by omega)
                  have HR6 := hid hr6
                  have HS6 := hid hs6
                  have HF6 : Hid (Far met t met' (ro ++ [z]) (k + 1)) := by
                    obtain ⟨f1, f2, f3⟩ := HFar.out
                    refine ⟨?_, by rw [List.length_append, f2]; rfl, by omega⟩
                    rw [f1, HDt.out, renG_neg _ _ _ _ hcn, HN.out, hz]
                    simp
                  clear hr6 hs6 hz
                  go_wp2_with (first
                    | (at_builtin; refine wpList_append_run rfl _ _ _ rfl _ _ rfl rfl HR6.out ?_))
                  go_roundw
                  case rel => exact ⟨k + 1, met', ro ++ [z], by omega, by go_num, HF6.out, HS6.out⟩
                  case measure => simp [intOf]; omega
                · have hyb : (y != c) = true := by rw [bne_iff_ne]; exact hyc
                  have HN2 : Hid (c ∉ met'.take (n + 1)) := fun hh => by
                    rw [take_get HY.out] at hh
                    rcases List.mem_append.1 hh with hh | hh
                    · exact HNo.out hh
                    · simp at hh
                      exact hyc hh.symm
                  go_wp2
                  go_quiet (fail)
                  go_wp2
                  go_roundw
                  case rel => exact ⟨n + 1, by omega, by go_num, HN2.out, below_drewN hbz _⟩
                  case measure => simp [intOf]; omega
              · have hnn : n = met'.length := by omega
                subst hnn
                have HN : Hid (docN met' (-1 - c) = ((met'.length : Int), met' ++ [c])) := docN_new (fun hh => HNo.out (by rw [List.take_length]; exact hh))
                go_wp2
                go_quiet (fail)
                have HSq := hid (HSz.out.later (below_drewN (Below.refl _ _) nq))
                obtain ⟨z, hz⟩ : ∃ z : Int, z = -1 - (met'.length : Int) := ⟨_, rfl⟩
                have hwz : IntKind.i64.wrap (-1 - (met'.length : Int)) = z := by rw [hz]; exact IntWalk.i64_in _ ⟨by omega, by omega⟩
                obtain ⟨v5, w5, hr5, hs5⟩ := HSq.out.pushMet 30 (c := c) hx3 hx4 (by omega)
                have HR5 := hid hr5
                obtain ⟨v6, w6, hr6, hs6⟩ := hs5.pushRow 30 (c := z) (by omega) (by omega) (by omega)
                have HR6 := hid hr6
                have HS6 := hid hs6
                have HF6 : Hid (Far met t (met' ++ [c]) (ro ++ [z]) (k + 1)) := by
                  obtain ⟨f1, f2, f3⟩ := HFar.out
                  refine ⟨?_, by rw [List.length_append, f2]; rfl, by rw [List.length_append]; simp; omega⟩
                  rw [f1, HDt.out, renG_neg _ _ _ _ hcn, HN.out, hz]
                  simp
                clear hr5 hs5 hr6 hs6 hz
                go_wp2_with (first
                  | (at_builtin; refine wpList_append_run rfl _ _ _ rfl _ _ rfl rfl HR5.out ?_)
                  | (at_builtin; refine wpList_append_run rfl _ _ _ rfl _ _ rfl rfl HR6.out ?_))
                go_roundw
                case rel => exact ⟨k + 1, met' ++ [c], ro ++ [z], by omega, by go_num, HF6.out, HS6.out⟩
                case measure => simp [intOf]; omega
          · have hcp : 0 ≤ c := by omega
            obtain ⟨v6, w6, hr6, hs6⟩ := HSy.out.pushRow 30 (c := c) hx3 hx4 (by omega)
            have HR6 := hid hr6
            have HS6 := hid hs6
            have HF6 : Hid (Far met t met' (ro ++ [c]) (k + 1)) := by
              obtain ⟨f1, f2, f3⟩ := HFar.out
              refine ⟨?_, by rw [List.length_append, f2]; rfl, by omega⟩
              rw [f1, HDt.out, renG_pos _ _ _ _ hcn]
              simp
            clear hr6 hs6
            go_wp2_with (first
              | (at_builtin; refine wpList_append_run rfl _ _ _ rfl _ _ rfl rfl HR6.out ?_))
            go_roundw
            case rel => exact ⟨k + 1, met', ro ++ [c], by omega, by go_num, HF6.out, HS6.out⟩
            case measure => simp [intOf]; omega
        · have hke : k = t.length := by omega
          subst hke
          obtain ⟨v6, w6, hr6, ho6, hor6, hm6, hd6, hb6⟩ := HSy.out.push 37 (by omega)
          have HR6 := hid hr6
          have HO6 := hid ho6
          have HOr6 := hid hor6
          have HM6 := hid hm6
          have HD6 := hid hd6
          have HB6 := hid hb6
          have hfin : renG docN met t = (ro, met') := by
            rw [HFar.out.1, List.drop_of_length_le (by omega)]
            simp [renG]
          have HCan6 : Hid (canL l = (dn ++ [ro]) ++ canD met' (l.drop (i + 1))) := by
            show _ = _
            rw [HCan.out, HDr.out, canD, hfin]
            simp
          have HMl6 : Hid (met'.length ≤ ((l.take (i + 1)).map List.length).sum) := by
            have h1 := HSum.out.1
            show _ ≤ _
            omega
          clear hr6 ho6 hor6 hm6 hd6 hb6 hfin
          go_wp2_with (first
            | (at_builtin; refine wpList_append_run rfl _ _ _ rfl _ _ rfl rfl HR6.out ?_))
          go_roundw
          case rel => exact ⟨i + 1, met', _, dn ++ [ro], by omega, by go_num, by rw [List.length_append, HDn.out]; rfl, HCan6.out, HMl6.out, HM6.out, HD6.out, HO6.out, HOr6.out, HB6.out⟩
          case measure => simp [intOf]; omega
    · have hie : i = l.length := by omega
      have HF : Hid (canL l = dn) := by
        show _ = _
        rw [HCan.out, List.drop_of_length_le (by omega)]
        simp [canD]
      subst hie
      go_wp2
      go_ret
      exact ⟨_, vs, rfl, HOw.out, by rw [HF.out]; exact HOr.out, HBl.out⟩

end Go.Proofs.YtifpanfgojfbkaaDoor
