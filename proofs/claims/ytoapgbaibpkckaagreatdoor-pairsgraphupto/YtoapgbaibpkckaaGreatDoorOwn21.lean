/- Texts of the proof, one behind the other. -/
import Derived.Test.YtoapgbaibpkckaaGreatDoorOwn4
import Derived.Test.YtoapgbaibpkckaaGreatDoorOwn7
import Derived.Test.YtoapgbaibpkckaaGreatDoorOwn19
import Derived.Test.YtoapgbaibpkckaaGreatDoorOwn17
import Derived.Test.YtoapgbaibpkckaaGreatDoorOwn20
import Derived.Test.YtoapgbaibpkckaaGreatDoorOwn12
/- What the document's Canon answers. -/
namespace Go.Proofs.YtoapgbaibpkckaaGreatDoor
open Go.RowKit Go.Maps Go.BigFrame

/-- The codes met, the row under way, the rows done: all the call's own, apart from one another. -/
structure St (w0 wy : World) (ov : Value) (i : Nat) (vs : List Value) (dn : List (List Int)) (x3 : Value) (met : List Int) (x6 : Value) (ro : List Int) : Prop where
  m : OwI wy w0.heap.size x3 met
  r : OwI wy w0.heap.size x6 ro
  d : Dis x3 x6
  dv : ∀ u ∈ vs, Dis u x3 ∧ Dis u x6
  or : OwR wy w0.heap.size vs dn
  ow : wy.ownsRow w0.heap.size 36 1 ov i vs
  bl : Below w0.heap.size w0 wy

theorem OwR.mem {w : World} {base : Nat} {vs : List Value} {l : List (List Int)} (h : OwR w base vs l) {u : Value} (hu : u ∈ vs) : ∃ x, OwI w base u x := by
  obtain ⟨j, hj, rfl⟩ := List.getElem_of_mem hu
  obtain ⟨x, hx⟩ : ∃ x, l[j]? = some x := ⟨_, List.getElem?_eq_getElem (by rw [← h.1]; exact hj)⟩
  exact ⟨x, h.2 j _ x (List.getElem?_eq_getElem hj) hx⟩

theorem OwR.kept {w w' : World} {base : Nat} {vs : List Value} {l : List (List Int)} {row : Option Nat} (h : OwR w base vs l) (hg : w.grownBy w' row) (hr : ∀ u ∈ vs, u.ownBlock = none ∨ u.ownBlock ≠ row) : OwR w' base vs l :=
  ⟨h.1, fun j u x hj hx => (h.2 j u x hj hx).kept hg (hr u (List.mem_of_getElem? hj))⟩

theorem OwR.later {w w' : World} {base : Nat} {vs : List Value} {l : List (List Int)} (h : OwR w base vs l) (hb : Below w.heap.size w w') : OwR w' base vs l :=
  ⟨h.1, fun j u x hj hx => (h.2 j u x hj hx).later hb⟩

theorem St.later {w0 wy wz : World} {ov : Value} {i : Nat} {vs : List Value} {dn : List (List Int)} {x3 x6 : Value} {met ro : List Int} (h : St w0 wy ov i vs dn x3 met x6 ro) (hb : Below wy.heap.size wy wz) : St w0 wz ov i vs dn x3 met x6 ro :=
  ⟨h.m.later hb, h.r.later hb, h.d, h.dv, h.or.later hb, ownsRow_later h.ow hb, below_step h.bl hb⟩

theorem St.pushRow (ty : TypeId) {w0 wy : World} {ov : Value} {i : Nat} {vs : List Value} {dn : List (List Int)} {x3 x6 : Value} {met ro : List Int} {c : Int} (h : St w0 wy ov i vs dn x3 met x6 ro) (h1 : -9223372036854775808 ≤ c) (h2 : c ≤ 9223372036854775807) (hl : (ro.length + 1) * 8 ≤ 140737488355328) :
    ∃ v' w', (Builtin.append_ #[36, 36] ty #[x6, .slice (some ⟨wy.heap.size, 0, none⟩) 1 1]).run Tryz.prog (wy.alloc (.cells #[.int .i64 c] 3)) = .ok v' w' ∧ St w0 w' ov i vs dn x3 met v' (ro ++ [c]) := by
  obtain ⟨v', w', hr, ho, hg, hb⟩ := join_one ty h.r h1 h2 h.bl.size hl
  have ha := h.later (below_alloc (.cells #[.int .i64 c] 3))
  refine ⟨v', w', hr, ?_⟩
  have hs := (below_alloc (w := wy) (.cells #[.int .i64 c] 3)).size
  exact ⟨ha.m.kept hg ha.d.keep, ho, ha.d.grow h.m hs hb, fun u hu => ⟨(h.dv u hu).1, by obtain ⟨x, hx⟩ := h.or.mem hu; exact (h.dv u hu).2.grow hx hs hb⟩,
    ha.or.kept hg fun u hu => (h.dv u hu).2.keep, ha.ow.kept hg (ownsRow_apart ha.ow ha.r.2 (by decide)), ha.bl.grown hg ha.bl.size (fun j hj => own_blk h.r.2 hj)⟩

theorem St.pushMet (ty : TypeId) {w0 wy : World} {ov : Value} {i : Nat} {vs : List Value} {dn : List (List Int)} {x3 x6 : Value} {met ro : List Int} {c : Int} (h : St w0 wy ov i vs dn x3 met x6 ro) (h1 : -9223372036854775808 ≤ c) (h2 : c ≤ 9223372036854775807) (hl : (met.length + 1) * 8 ≤ 140737488355328) :
    ∃ v' w', (Builtin.append_ #[36, 36] ty #[x3, .slice (some ⟨wy.heap.size, 0, none⟩) 1 1]).run Tryz.prog (wy.alloc (.cells #[.int .i64 c] 3)) = .ok v' w' ∧ St w0 w' ov i vs dn v' (met ++ [c]) x6 ro := by
  obtain ⟨v', w', hr, ho, hg, hb⟩ := join_one ty h.m h1 h2 h.bl.size hl
  have ha := h.later (below_alloc (.cells #[.int .i64 c] 3))
  refine ⟨v', w', hr, ?_⟩
  have hs := (below_alloc (w := wy) (.cells #[.int .i64 c] 3)).size
  exact ⟨ho, ha.r.kept hg ha.d.symm.keep, (ha.d.symm.grow h.r hs hb).symm, fun u hu => ⟨by obtain ⟨x, hx⟩ := h.or.mem hu; exact (h.dv u hu).1.grow hx hs hb, (h.dv u hu).2⟩,
    ha.or.kept hg fun u hu => (h.dv u hu).1.keep, ha.ow.kept hg (ownsRow_apart ha.ow ha.m.2 (by decide)), ha.bl.grown hg ha.bl.size (fun j hj => own_blk h.m.2 hj)⟩

theorem St.push (ty : TypeId) {w0 wy : World} {ov : Value} {i : Nat} {vs : List Value} {dn : List (List Int)} {x3 x6 : Value} {met ro : List Int} (h : St w0 wy ov i vs dn x3 met x6 ro) (hl : (i + 1) * 24 ≤ 140737488355328) :
    ∃ v' w', (Builtin.append_ #[41, 41] ty #[ov, .slice (some ⟨wy.heap.size, 0, none⟩) 1 1]).run Tryz.prog (wy.alloc (.cells #[x6] 36)) = .ok v' w' ∧ w'.ownsRow w0.heap.size 36 1 v' (i + 1) (vs ++ [x6]) ∧ OwR w' w0.heap.size (vs ++ [x6]) (dn ++ [ro]) ∧ OwI w' w0.heap.size x3 met ∧ (∀ u ∈ vs ++ [x6], Dis u x3) ∧ Below w0.heap.size w0 w' := by
  obtain ⟨v', w', hr, ho, hg⟩ := join_row ty (u := x6) h.ow h.bl.size hl (by obtain ⟨_, _, rfl, _⟩ := h.r.shape; rfl)
  have ha := h.later (below_alloc (.cells #[x6] 36))
  have hk : ∀ {u : Value} {x : List Int}, OwI (wy.alloc (.cells #[x6] 36)) w0.heap.size u x → OwI w' w0.heap.size u x := fun {u x} hu => hu.kept hg (ownsRow_apart hu.2 ha.ow (by decide))
  refine ⟨v', w', hr, ho, ⟨by rw [List.length_append, List.length_append, h.or.1]; rfl, fun j u x hj hx => ?_⟩, hk ha.m, fun u hu => ?_, ha.bl.grown hg ha.bl.size (fun j hj => own_blk h.ow hj)⟩
  · by_cases hjl : j < vs.length
    · rw [List.getElem?_append_left hjl] at hj
      rw [List.getElem?_append_left (by rw [← h.or.1]; exact hjl)] at hx
      exact hk (ha.or.2 j u x hj hx)
    · rw [List.getElem?_append_right (by omega)] at hj
      rw [List.getElem?_append_right (by rw [← h.or.1]; omega), ← h.or.1] at hx
      have hj0 : j - vs.length = 0 := by
        have := (List.getElem?_eq_some_iff.1 hj).1
        simp at this
        omega
      rw [hj0] at hj hx
      simp at hj hx
      subst hj
      subst hx
      exact hk ha.r
  · rcases List.mem_append.1 hu with hu | hu
    · exact (h.dv u hu).1
    · simp at hu
      subst hu
      exact h.d.symm

theorem empty_rowg {w : World} {base g : Nat} (t : TypeId) (hb : base ≤ w.heap.size) (hg : g = w.heap.size) : (w.alloc (.cells #[] t)).ownsRow base t 1 (.slice (some ⟨g, 0, none⟩) 0 0) 0 [] := by
  subst hg
  exact empty_row t hb

/-- A row that is begun. -/
theorem St.begin {w0 wr : World} {ov : Value} {i : Nat} {vs : List Value} {dn : List (List Int)} {x3 : Value} {met : List Int} (hm : OwI wr w0.heap.size x3 met) (hd : ∀ u ∈ vs, Dis u x3) (hor : OwR wr w0.heap.size vs dn) (how : wr.ownsRow w0.heap.size 36 1 ov i vs) (hb : Below w0.heap.size w0 wr) :
    St w0 (wr.alloc (.cells #[] 3)) ov i vs dn x3 met (.slice (some ⟨wr.heap.size, 0, none⟩) 0 0) [] := by
  have hn : ∀ {u : Value} {x : List Int}, OwI wr w0.heap.size u x → Dis u (.slice (some ⟨wr.heap.size, 0, none⟩) 0 0) := fun {u x} hu g h1 h2 => by
    have := own_blk_lt hu.2 h1
    simp only [Value.ownBlock, Option.some.injEq] at h2
    omega
  exact ⟨hm.later (below_alloc _), ⟨fun k x hk => (by simp at hk), empty_row _ hb.size⟩, hn hm, fun u hu => ⟨hd u hu, by obtain ⟨x, hx⟩ := hor.mem hu; exact hn hx⟩, hor.later (below_alloc _), ownsRow_later how (below_alloc _), below_step hb (below_alloc _)⟩

theorem idx_at {met : List Int} {n : Nat} {c : Int} (h1 : met[n]? = some c) (h2 : c ∉ met.take n) : met.idxOf c = n := by
  have hlt := (List.getElem?_eq_some_iff.1 h1).1
  have e : met = met.take n ++ c :: met.drop (n + 1) := by
    rw [← drop_get h1, List.take_append_drop]
  rw [e, List.idxOf_append, if_neg h2, List.idxOf_cons_self, List.length_take]
  omega

theorem docN_old {met : List Int} {n : Nat} {c : Int} (h1 : met[n]? = some c) (h2 : c ∉ met.take n) : docN met (-1 - c) = ((n : Int), met) := by
  unfold docN
  rw [show -1 - (-1 - c) = c by omega, if_pos (List.mem_of_getElem? h1), idx_at h1 h2]

theorem docN_new {met : List Int} {c : Int} (h : c ∉ met) : docN met (-1 - c) = ((met.length : Int), met ++ [c]) := by
  unfold docN
  rw [show -1 - (-1 - c) = c by omega, if_neg h]

theorem renG_neg {σ : Type} (φ : σ → Int → Int × σ) (s : σ) (c : Int) (t : List Int) (h : c < 0) : renG φ s (c :: t) = ((-1 - (φ s (-1 - c)).1) :: (renG φ (φ s (-1 - c)).2 t).1, (renG φ (φ s (-1 - c)).2 t).2) := by simp only [renG, if_pos h]

theorem renG_pos {σ : Type} (φ : σ → Int → Int × σ) (s : σ) (c : Int) (t : List Int) (h : ¬ c < 0) : renG φ s (c :: t) = (c :: (renG φ s t).1, (renG φ s t).2) := by simp only [renG, if_neg h]

/-- How far a row is. -/
def Far (met t met' ro : List Int) (k : Nat) : Prop := renG docN met t = (ro ++ (renG docN met' (t.drop k)).1, (renG docN met' (t.drop k)).2) ∧ ro.length = k ∧ met'.length ≤ met.length + k

set_option maxRecDepth 100000 in
set_option maxHeartbeats 1600000 in
theorem refCanon_any (v : Value) (l : List (List Int)) (w : World) (h : Rs w v l) (hn : l.length ≤ 1048576) (hsum : (l.map List.length).sum ≤ 1048576) :
    Calls Tryz.prog 43 #[v] w fun e w' => ∃ v' vs, e = .returned v' ∧ w'.ownsRow w.heap.size 36 1 v' l.length vs ∧ OwR w' w.heap.size vs (canL l) ∧ Below w.heap.size w w' := by
  obtain ⟨ao, cap, rfl, hao, hca, _⟩ := Row.flat h
  unfold maxLen at hca
  have HR := hid h
  have HCd := hid (canL_doc l)
  clear h
  go_enter Tryz.func43, Tryz.ntmps43
  go_wp2
  go_loopw [3, 4, 5] (fun x3 ov iv wr => ∃ (i : Nat) (met : List Int) (vs : List Value) (dn : List (List Int)), i ≤ l.length ∧ iv = .int .i64 i ∧ dn.length = i ∧ canL l = dn ++ canD met (l.drop i) ∧ met.length ≤ ((l.take i).map List.length).sum ∧ OwI wr w.heap.size x3 met ∧ (∀ u ∈ vs, Dis u x3) ∧ wr.ownsRow w.heap.size 36 1 ov i vs ∧ OwR wr w.heap.size vs dn ∧ Below w.heap.size w wr) (fun _ _ iv _ => l.length - (intOf iv).toNat)
  case atStart => exact ⟨0, [], [], [], Nat.zero_le _, rfl, rfl, HCd.out, by simp, OwI.later ⟨fun k x hk => (by simp at hk), empty_row _ (Nat.le_refl _)⟩ (below_alloc _), fun u hu => (by cases hu), empty_rowg _ (below_alloc _).size (by simp), ⟨rfl, fun j u x hj => (by simp at hj)⟩, below_step (below_alloc _) (below_alloc _)⟩
  case round =>
    obtain ⟨i, met, vs, dn, hi, rfl, hdn, hcan, hml, hm, hd, how, hor, hbl⟩ := hrel
    have HDn := hid hdn
    have HCan := hid hcan
    have HMl := hid hml
    have HM := hid hm
    have HD := hid hd
    have HOw := hid how
    have HOr := hid hor
    have HBl := hid hbl
    clear hdn hcan hml hm hd how hor
    by_cases hlt : i < l.length
    · obtain ⟨g, off, ra, t, rc, rfl, hti, hc0, hit, ht8⟩ := HR.out.at hlt
      have hcr := (Kp.of_below hbl).cell _ _ hc0
      have HTi := hid hti
      have HIt := hid hit
      have HSum : Hid (met.length + t.length ≤ ((l.take (i + 1)).map List.length).sum ∧ ((l.take (i + 1)).map List.length).sum ≤ 1048576) := by
        have h1 := HMl.out
        have h2 := sum_take l (i + 1)
        refine ⟨?_, by omega⟩
        rw [take_get hti]
        simp only [List.map_append, List.map_cons, List.map_nil, List.sum_append, List.sum_cons, List.sum_nil]
        omega
      have hs1 := HSum.out
      have HDr : Hid (l.drop i = t :: l.drop (i + 1)) := drop_get hti
      have HSt := hid (St.begin HM.out HD.out HOr.out HOw.out HBl.out)
      clear hti hit hbl
      go_wp2_with fail
      go_loopw [3, 6, 7] (fun x3 x6 kv wy => ∃ (k : Nat) (met' ro : List Int), k ≤ t.length ∧ kv = .int .i64 k ∧ Far met t met' ro k ∧ St w wy u4 i vs dn x3 met' x6 ro) (fun _ _ kv _ => t.length - (intOf kv).toNat)
      case atStart => exact ⟨0, met, [], Nat.zero_le _, rfl, ⟨rfl, rfl, by omega⟩, HSt.out⟩
      case round =>
        obtain ⟨k, met', ro, hk, rfl, hfar, hst⟩ := hrel
        have hby := hst.bl
        have HFar := hid hfar
        have HSy := hid hst
        have HBy := hid hby
        have hrl : ro.length = k := hfar.2.1
        have hmb : met'.length ≤ met.length + k := hfar.2.2
        have hd0 := (Kp.of_below hby).cell _ _ hc0
        obtain ⟨mo, mc, hmv, hmc1, hmc2⟩ := hst.m.shape
        obtain ⟨oo, oc, hov, hoc1, hoc2⟩ := hst.r.shape
        rw [hrl] at hov hoc1
        subst hmv
        subst hov
        unfold maxLen at hmc2 hoc2
        clear hfar hst HSt HM HOw HOr hcr
        by_cases hkt : k < t.length
        · obtain ⟨g2, off2, c, rfl, hx1, hx2, hx3, hx4⟩ := (HIt.out.kp (Kp.of_below hby)).at hkt
          have HDt : Hid (t.drop k = c :: t.drop (k + 1)) := drop_get hx1
          clear hx1 hby
          by_cases hcn : c < 0
          · have hc0n : ¬ 0 ≤ c := by omega
            go_wp2_with fail
            go_loopw [8] (fun nv wz => ∃ n : Nat, n ≤ met'.length ∧ nv = .int .i64 n ∧ c ∉ met'.take n ∧ Below wr.heap.size wr wz) (fun nv _ => met'.length - (intOf nv).toNat)
            case atStart => exact ⟨0, Nat.zero_le _, rfl, by simp, Below.refl _ _⟩
            case round =>
              obtain ⟨n, hnl, rfl, hno, hbz⟩ := hrel
              have HNo := hid hno
              have HSz := hid (HSy.out.later hbz)
              have he0 := (Kp.of_below hbz).cell _ _ hd0
              have he2 := (Kp.of_below hbz).cell _ _ hx2
              clear hno
              by_cases hnm : n < met'.length
              · obtain ⟨g3, off3, y, hq, hy1, hy2, hy3, hy4⟩ := HSz.out.m.is.at hnm
                have HY := hid hy1
                subst hq
                clear hy1
                by_cases hyc : y = c
                · subst hyc
                  have hyb : (y != y) = false := by simp
                  have hne : ((n : Int) == (met'.length : Int)) = false := by rw [beq_eq_false_iff_ne]; omega
                  have HN : Hid (docN met' (-1 - y) = ((n : Int), met')) := docN_old HY.out HNo.out
                  go_wp2
                  go_quiet (fail)
                  have HSq := hid (HSz.out.later (below_drewN (Below.refl _ _) nq))
                  obtain ⟨z, hz⟩ : ∃ z : Int, z = -1 - (n : Int) := ⟨_, rfl⟩
                  have hwz : IntKind.i64.wrap (-1 - (n : Int)) = z := by rw [hz]; exact IntWalk.i64_in _ ⟨by omega, by omega⟩
                  obtain ⟨v6, w6, hr6, hs6⟩ := HSq.out.pushRow 36 (c := z) (by omega) (by omega) (by omega)
                  have HR6 := hid hr6
                  have HS6 := hid hs6
                  have HF6 : Hid (Far met t met' (ro ++ [z]) (k + 1)) := by
                    obtain ⟨f1, f2, f3⟩ := HFar.out
                    refine ⟨?_, by rw [List.length_append, f2]; rfl, by omega⟩
                    rw [f1, HDt.out, renG_neg _ _ _ _ hcn, HN.out, hz]
                    simp
                  clear hr6 hs6 hz
                  go_wp2_with (first
                    | (at_builtin; refine wpList_append_run rfl _ _ _ rfl _ _ rfl rfl HR6.out ?_))
                  go_roundw
                  case rel => exact ⟨k + 1, met', ro ++ [z], by omega, by go_num, HF6.out, HS6.out⟩
                  case measure => simp [intOf]; omega
                · have hyb : (y != c) = true := by rw [bne_iff_ne]; exact hyc
                  have HN2 : Hid (c ∉ met'.take (n + 1)) := fun hh => by
                    rw [take_get HY.out] at hh
                    rcases List.mem_append.1 hh with hh | hh
                    · exact HNo.out hh
                    · simp at hh
                      exact hyc hh.symm
                  go_wp2
                  go_quiet (fail)
                  go_wp2
                  go_roundw
                  case rel => exact ⟨n + 1, by omega, by go_num, HN2.out, below_drewN hbz _⟩
                  case measure => simp [intOf]; omega
              · have hnn : n = met'.length := by omega
                subst hnn
                have HN : Hid (docN met' (-1 - c) = ((met'.length : Int), met' ++ [c])) := docN_new (fun hh => HNo.out (by rw [List.take_length]; exact hh))
                go_wp2
                go_quiet (fail)
                have HSq := hid (HSz.out.later (below_drewN (Below.refl _ _) nq))
                obtain ⟨z, hz⟩ : ∃ z : Int, z = -1 - (met'.length : Int) := ⟨_, rfl⟩
                have hwz : IntKind.i64.wrap (-1 - (met'.length : Int)) = z := by rw [hz]; exact IntWalk.i64_in _ ⟨by omega, by omega⟩
                obtain ⟨v5, w5, hr5, hs5⟩ := HSq.out.pushMet 36 (c := c) hx3 hx4 (by omega)
                have HR5 := hid hr5
                obtain ⟨v6, w6, hr6, hs6⟩ := hs5.pushRow 36 (c := z) (by omega) (by omega) (by omega)
                have HR6 := hid hr6
                have HS6 := hid hs6
                have HF6 : Hid (Far met t (met' ++ [c]) (ro ++ [z]) (k + 1)) := by
                  obtain ⟨f1, f2, f3⟩ := HFar.out
                  refine ⟨?_, by rw [List.length_append, f2]; rfl, by rw [List.length_append]; simp; omega⟩
                  rw [f1, HDt.out, renG_neg _ _ _ _ hcn, HN.out, hz]
                  simp
                clear hr5 hs5 hr6 hs6 hz
                go_wp2_with (first
                  | (at_builtin; refine wpList_append_run rfl _ _ _ rfl _ _ rfl rfl HR5.out ?_)
                  | (at_builtin; refine wpList_append_run rfl _ _ _ rfl _ _ rfl rfl HR6.out ?_))
                go_roundw
                case rel => exact ⟨k + 1, met' ++ [c], ro ++ [z], by omega, by go_num, HF6.out, HS6.out⟩
                case measure => simp [intOf]; omega
          · have hcp : 0 ≤ c := by omega
            obtain ⟨v6, w6, hr6, hs6⟩ := HSy.out.pushRow 36 (c := c) hx3 hx4 (by omega)
            have HR6 := hid hr6
            have HS6 := hid hs6
            have HF6 : Hid (Far met t met' (ro ++ [c]) (k + 1)) := by
              obtain ⟨f1, f2, f3⟩ := HFar.out
              refine ⟨?_, by rw [List.length_append, f2]; rfl, by omega⟩
              rw [f1, HDt.out, renG_pos _ _ _ _ hcn]
              simp
            clear hr6 hs6
            go_wp2_with (first
              | (at_builtin; refine wpList_append_run rfl _ _ _ rfl _ _ rfl rfl HR6.out ?_))
            go_roundw
            case rel => exact ⟨k + 1, met', ro ++ [c], by omega, by go_num, HF6.out, HS6.out⟩
            case measure => simp [intOf]; omega
        · have hke : k = t.length := by omega
          subst hke
          obtain ⟨v6, w6, hr6, ho6, hor6, hm6, hd6, hb6⟩ := HSy.out.push 41 (by omega)
          have HR6 := hid hr6
          have HO6 := hid ho6
          have HOr6 := hid hor6
          have HM6 := hid hm6
          have HD6 := hid hd6
          have HB6 := hid hb6
          have hfin : renG docN met t = (ro, met') := by
            rw [HFar.out.1, List.drop_of_length_le (by omega)]
            simp [renG]
          have HCan6 : Hid (canL l = (dn ++ [ro]) ++ canD met' (l.drop (i + 1))) := by
            show _ = _
            rw [HCan.out, HDr.out, canD, hfin]
            simp
          have HMl6 : Hid (met'.length ≤ ((l.take (i + 1)).map List.length).sum) := by
            have h1 := HSum.out.1
            show _ ≤ _
            omega
          clear hr6 ho6 hor6 hm6 hd6 hb6 hfin
          go_wp2_with (first
            | (at_builtin; refine wpList_append_run rfl _ _ _ rfl _ _ rfl rfl HR6.out ?_))
          go_roundw
          case rel => exact ⟨i + 1, met', _, dn ++ [ro], by omega, by go_num, by rw [List.length_append, HDn.out]; rfl, HCan6.out, HMl6.out, HM6.out, HD6.out, HO6.out, HOr6.out, HB6.out⟩
          case measure => simp [intOf]; omega
    · have hie : i = l.length := by omega
      have HF : Hid (canL l = dn) := by
        show _ = _
        rw [HCan.out, List.drop_of_length_le (by omega)]
        simp [canD]
      subst hie
      go_wp2
      go_ret
      exact ⟨_, vs, rfl, HOw.out, by rw [HF.out]; exact HOr.out, HBl.out⟩

end Go.Proofs.YtoapgbaibpkckaaGreatDoor

/- The binds of the classes are most general: plain. -/
namespace Go.Proofs.YtoapgbaibpkckaaGreatDoor

theorem laid_congr6 {f g : Int → Option (List Int)} {t : List Int} (h : ∀ c ∈ t, c < 0 → piece f c = piece g c) : laidL f t = laidL g t := by
  unfold laidL
  induction t with
  | nil => rfl
  | cons c t ih =>
    rw [List.flatMap_cons, List.flatMap_cons, ih (fun d hd => h d (List.mem_cons_of_mem _ hd))]
    congr 1
    by_cases hc : c < 0
    · exact h c (List.mem_cons_self ..) hc
    · unfold piece
      rw [if_neg hc, if_neg hc]

end Go.Proofs.YtoapgbaibpkckaaGreatDoor

/- The document's Cap, begins and Edge walked. -/
namespace Go.Proofs.YtoapgbaibpkckaaGreatDoor
open Go.RowKit Go.Maps Go.BigFrame

/-- How many variables a CAP has. -/
def capF (sig : List Sy) (D : List Int) : List Int → Nat
  | [] => 0
  | _ :: r => (capG sig D r.length 0 r).2

theorem capF_right {sig : List Sy} (ha : ArOk sig) (D : List Int) {t : List Int} (h : rowE sig t = 0) (h0 : 0 ≤ (t[0]?).getD (-1)) (hl : t.length ≤ 1048576) : capF sig D t + 1 ≤ t.length ∧ ∀ c ∈ capL sig D t, c < 0 → -1 - c < (capF sig D t : Int) := by
  cases t with
  | nil => simp at h0
  | cons c r =>
    simp only [List.getElem?_cons_zero, Option.getD_some] at h0
    rw [row_first, firstT_cons] at h
    rw [List.length_cons] at hl
    unfold capL capF
    cases hcd : codeD sig c with
    | none => rw [hcd] at h; simp at h
    | some x =>
      rw [hcd] at h
      simp only at h
      have hx := codeD_ge ha hcd
      by_cases hz : 1 + x = 0
      · rw [if_pos hz] at h
        have h2 := congrArg Prod.fst h
        simp only [List.length_cons] at h2
        obtain rfl : r = [] := List.eq_nil_of_length_eq_zero (by omega)
        refine ⟨by simp [capG], fun d hd h9 => ?_⟩
        simp only [capG, List.length_nil, List.mem_singleton] at hd
        omega
      · rw [if_neg hz] at h
        obtain ⟨g1, g2, g3, g4, g5⟩ := capG_rows ha D r.length 0 r (1 + x) 1 1 (Nat.le_refl _) (by omega) (by omega) (by rw [h, List.length_cons]; congr 1; push_cast; omega)
        refine ⟨by show (capG sig D r.length 0 r).2 + 1 ≤ _; rw [List.length_cons]; omega, fun d hd h9 => ?_⟩
        show _ < ((capG sig D r.length 0 r).2 : Int)
        rcases List.mem_cons.1 hd with rfl | hd
        · omega
        · exact (g5 d hd h9).2

/-- How far the second term's variables are shifted makes no difference, as long as they are apart from the first one's. -/
theorem unif_shift {sig : List Sy} {a c : List Int} {f d1 d2 : Nat} (ha : ∀ x ∈ a, x < 0 → -1 - x < (f : Int)) (hc : ∀ x ∈ c, x < 0 → -1 - x < 1024) (h1 : f ≤ d1) (h2 : f ≤ d2) (hd1 : d1 ≤ 1024) (hd2 : d2 ≤ 1024) (h : Unif sig a (movL (d1 : Int) c)) : Unif sig a (movL (d2 : Int) c) := by
  obtain ⟨g, hg, he⟩ := h
  refine ⟨fun n => if n < (f : Int) then g n else if n < (d2 : Int) + 1024 ∧ (d2 : Int) ≤ n then some ((g (n - d2 + d1)).getD [-1 - (n - d2 + d1)]) else none, fun n u hu => ?_, ?_⟩
  · simp only at hu
    split at hu
    · exact hg n u hu
    · split at hu
      · rename_i h3 h4
        cases hgn : g (n - d2 + d1) with
        | none =>
          rw [hgn] at hu
          cases hu
          exact row_var (by omega) (by omega)
        | some v =>
          rw [hgn] at hu
          cases hu
          exact hg _ _ hgn
      · cases hu
  · have e1 : laidL (fun n => if n < (f : Int) then g n else if n < (d2 : Int) + 1024 ∧ (d2 : Int) ≤ n then some ((g (n - d2 + d1)).getD [-1 - (n - d2 + d1)]) else none) a = laidL g a := laid_congr6 fun x hx h0 => by
      unfold piece
      rw [if_pos h0, if_pos h0]
      dsimp only
      rw [if_pos (ha x hx h0)]
    rw [e1, he]
    unfold laidL movL
    rw [List.flatMap_map, List.flatMap_map]
    rw [List.flatMap_def, List.flatMap_def]
    congr 1
    apply List.map_congr_left
    intro x hx
    by_cases h0 : x < 0
    · have h3 := hc x hx h0
      rw [if_pos h0, if_pos h0]
      unfold piece
      rw [if_pos (by omega), if_pos (by omega)]
      dsimp only
      have q1 : ¬ (-1 - (x - (d2 : Int)) < (f : Int)) := by omega
      rw [if_neg q1, if_pos ⟨by omega, by omega⟩, Option.getD_some]
      have q2 : -1 - (x - (d2 : Int)) - (d2 : Int) + (d1 : Int) = -1 - (x - (d1 : Int)) := by omega
      have q3 : -1 - (-1 - (x - (d1 : Int))) = x - (d1 : Int) := by omega
      rw [q2, q3]
    · rw [if_neg h0, if_neg h0]
      unfold piece
      rw [if_neg h0, if_neg h0]

/-- The document's edge. -/
theorem edge_doc {sig : List Sy} {rs : List Rl} {pr ql : List Int} (hp : standB sig pr = true) (hq : standB sig ql = true) : meetB (extL sig) (exitL sig rs pr) (entryL sig ql) = meetB (extL sig) (capL (extL sig) (definedL sig rs) pr) (movL (capF (extL sig) (definedL sig rs) pr : Int) (canR ql)) := by
  obtain ⟨p1, p2, p3, p4⟩ := stand_parts hp
  obtain ⟨q1, q2, q3, q4⟩ := stand_parts hq
  have ha := sig_arOk13 p2
  have e1 : exitL sig rs pr = capL (extL sig) (definedL sig rs) pr := by unfold exitL; rw [if_pos hp]
  have e2 : entryL sig ql = movL 512 (canR ql) := by unfold entryL; rw [if_pos hq]
  obtain ⟨f1, f2⟩ := capF_right ha (definedL sig rs) p3 p4 (by omega)
  obtain ⟨r1, r2, _⟩ := capL_right ha (definedL sig rs) p3 p4 (by omega)
  have c3 := (canR_right q3 (by omega)).2.2.1
  obtain ⟨_, s2, _⟩ := can_shift (d := 512) q3 q1 (by omega)
  obtain ⟨_, t2, _⟩ := can_shift (d := capF (extL sig) (definedL sig rs) pr) q3 q1 (by omega)
  have te : ∀ t, rowE (extL sig) t = 0 → termE (extL sig) t = 0 := fun t ht => by unfold termE; rw [if_pos p2]; exact ht
  rw [e1, e2]
  unfold meetB
  congr 1
  apply propext
  have two : ∀ b, rowE (extL sig) b = 0 → twoE (extL sig) (capL (extL sig) (definedL sig rs) pr) b = 0 := fun b hb => by
    unfold twoE
    rw [if_pos (te _ r1)]
    exact te _ hb
  have hc : ∀ x ∈ canR ql, x < 0 → -1 - x < 1024 := fun x hx h0 => by have := c3 x hx h0; omega
  constructor
  · rintro ⟨_, h⟩
    exact ⟨two _ t2, unif_shift (d1 := 512) f2 hc (by omega) (Nat.le_refl _) (by omega) (by omega) h⟩
  · rintro ⟨_, h⟩
    exact ⟨two _ s2, unif_shift (d2 := 512) f2 hc (Nat.le_refl _) (by omega) (by omega) (by omega) h⟩

set_option maxRecDepth 100000 in
set_option maxHeartbeats 1600000 in
theorem refBegins13_any (sv tv : Value) (ext : List Sy) (t : List Int) (n : Nat) (w : World) (hs : Sg w sv ext) (ht : Is w tv t) (hl : t.length * 8 ≤ 140737488351232) :
    Calls Tryz.prog 41 #[sv, tv, .int .i64 n] w fun e w' => e = .returned (.bool (decide (t.length ≤ 512 ∧ termE ext t = 0 ∧ (n : Int) ≤ (t[0]?).getD (-1)))) ∧ Below w.heap.size w w' := by
  obtain ⟨ta, tc, rfl, hta, htc, _⟩ := Row.flat ht
  unfold maxLen at htc
  have HC := hid (refCheck_any sv _ ext t w hs ht hl)
  have HT := hid ht
  clear hs ht
  obtain ⟨R, hR⟩ : ∃ R, R = decide (t.length ≤ 512 ∧ termE ext t = 0 ∧ (n : Int) ≤ (t[0]?).getD (-1)) := ⟨_, rfl⟩
  rw [← hR]
  obtain ⟨E, hE⟩ : ∃ E, E = termE ext t := ⟨_, rfl⟩
  rw [← hE] at HC hR
  have HR := hid hR
  have HE := hid hE
  clear hR hE
  go_enter Tryz.func41, Tryz.ntmps41
  go_wp2_with fail
  refine HC.out.mono ?_
  rintro e w1 ⟨rfl, hb1⟩
  have HB1 := hid hb1
  have HT1 := hid (HT.out.kp (Kp.of_below hb1))
  clear hb1
  by_cases h0 : E = 0
  · have hE0 : (E == 0) = true := by simpa using h0
    have hpos := row_posS (term_parts (HE.out.symm.trans h0)).2
    by_cases h5 : t.length ≤ 512
    · have hd5 : decide (t.length ≤ 512) = true := by simpa using h5
      obtain ⟨g, off, c, rfl, hc, hcx, _, _⟩ := HT1.out.at hpos
      rw [Nat.add_zero] at hcx
      have HRe : Hid (R = decide ((n : Int) ≤ c)) := by
        show _ = _
        rw [HR.out, hc, Option.getD_some]
        congr 1
        simp [h0, h5]
      clear hc h0
      by_cases hnc : (n : Int) ≤ c
      · have hdc : decide ((n : Int) ≤ c) = true := by simpa using hnc
        go_wp2
        go_ret
        exact ⟨ret1b (by rw [HRe.out, hdc]), HB1.out⟩
      · have hdc : decide ((n : Int) ≤ c) = false := by simpa using hnc
        go_wp2
        go_ret
        exact ⟨ret1b (by rw [HRe.out, hdc]), HB1.out⟩
    · have hd5 : decide (t.length ≤ 512) = false := by simpa using h5
      have HRe : Hid (R = false) := by show _ = _; rw [HR.out]; simp [h5]
      clear h0
      go_wp2
      go_ret
      exact ⟨ret1b HRe.out.symm, HB1.out⟩
  · have hE0 : (E == 0) = false := by simpa using h0
    have HRe : Hid (R = false) := by show _ = _; rw [HR.out]; simp [h0]
    clear h0
    go_wp2
    go_ret
    exact ⟨ret1b HRe.out.symm, HB1.out⟩

set_option maxRecDepth 100000 in
set_option maxHeartbeats 1600000 in
theorem refCap13_any (sv dv tv : Value) (ext : List Sy) (D t : List Int) (w : World) (hs : Sg w sv ext) (hd : Is w dv D) (ht : Is w tv t) (ha : ArOk ext) (hr : rowE ext t = 0) (h0 : 0 ≤ (t[0]?).getD (-1)) (hl : t.length ≤ 512) :
    Calls Tryz.prog 42 #[sv, dv, tv] w fun e w' => ∃ v', e = .returned (.tuple #[v', .int .i64 (capF ext D t)]) ∧ OwI w' w.heap.size v' (capL ext D t) ∧ Below w.heap.size w w' := by
  obtain ⟨ta, tc, rfl, hta, htc, _⟩ := Row.flat ht
  unfold maxLen at htc
  have hpos := row_posS hr
  obtain ⟨g, off, c0, rfl, hc, hcx, hc1, hc2⟩ := ht.at hpos
  rw [Nat.add_zero] at hcx
  have HTt := hid ht
  have HS := hid hs
  have HA := hid ha
  have HDf := hid hd
  have hc0 : 0 ≤ c0 := by rw [hc] at h0; simpa using h0
  have hR : capL ext D t = [c0] ++ (capG ext D (t.length - 1) 0 (t.drop 1)).1 ∧ capF ext D t = (capG ext D (t.length - 1) 0 (t.drop 1)).2 := by
    cases t with
    | nil => simp at hpos
    | cons x r =>
      simp only [List.getElem?_cons_zero, Option.some.injEq] at hc
      subst hc
      exact ⟨rfl, rfl⟩
  have hM : 1 = t.length ∨ ∃ m : Int, 1 ≤ m ∧ firstT ext m 1 (t.drop 1) = ((t.length : Int), 0) := by
    cases t with
    | nil => simp at hpos
    | cons x r =>
      have h9 := row_first.1 hr
      obtain ⟨x', r', d, e1, e2, e3⟩ := first_round h9
      cases e1
      rcases e3 with ⟨_, e3⟩ | ⟨e3, e4⟩
      · exact .inl (by simp only [List.length_cons] at e3 ⊢; omega)
      · exact .inr ⟨1 + d, by have := codeD_ge ha e2; omega, by simpa using e4⟩
  obtain ⟨R, hRe⟩ : ∃ R, R = capL ext D t := ⟨_, rfl⟩
  obtain ⟨F, hFe⟩ : ∃ F, F = capF ext D t := ⟨_, rfl⟩
  rw [← hRe, ← hFe] at hR ⊢
  obtain ⟨W1, hW1⟩ : ∃ X, X = w.alloc (.cells #[.int .i64 c0] 3) := ⟨_, rfl⟩
  have HO1 : Hid (OwI W1 w.heap.size (.slice (some ⟨w.heap.size, 0, none⟩) 1 1) [c0]) := by rw [hW1]; exact own_one13 hc1 hc2
  have C1 : Hid (Below w.heap.size w W1) := by rw [hW1]; exact below_alloc _
  have HR := hid hR
  have HM := hid hM
  have HW1 := hid hW1
  clear ht hs hd ha hr hR hM hRe hFe hc h0 hW1
  go_enter Tryz.func42, Tryz.ntmps42
  go_upto_region 2 with fail
  rw [← HW1.out]
  clear HW1 hcx
  go_wp2
  go_loopw [8, 9, 10] (fun rv fv kv wr => ∃ (k f N : Nat) (so : List Int), kv = .int .i64 k ∧ fv = .int .i64 f ∧ 1 ≤ k ∧ k ≤ t.length ∧ f ≤ k ∧ OwI wr w.heap.size rv so ∧ so.length ≤ k ∧ (t.drop k).length ≤ N ∧ (R = so ++ (capG ext D N f (t.drop k)).1 ∧ F = (capG ext D N f (t.drop k)).2) ∧ (k = t.length ∨ ∃ m : Int, 1 ≤ m ∧ firstT ext m k (t.drop k) = ((t.length : Int), 0)) ∧ Below w.heap.size w wr) (fun _ _ kv _ => t.length - (intOf kv).toNat)
  case atStart => exact ⟨1, 0, t.length - 1, [c0], rfl, rfl, Nat.le_refl _, hpos, Nat.zero_le _, HO1.out, Nat.le_refl _, by rw [List.length_drop]; exact Nat.le_refl _, HR.out, by rcases HM.out with h | h; exact .inl h; exact .inr h, C1.out⟩
  case round =>
    clear HR HM HO1
    obtain ⟨k, f, N, sf, rfl, rfl, hk1, hkl, hfk, hos, hsl, hN, hRe, hM, hbl⟩ := hrel
    have HO := hid hos
    have HN := hid hN
    have HR := hid hRe
    have HM := hid hM
    have HB := hid hbl
    clear hos hN hRe hM hbl
    by_cases hlt : k < t.length
    · have HTr := hid (HTt.out.kp (Kp.of_below HB.out))
      obtain ⟨_, _, c, e1, hc, hcx, hc1, hc2⟩ := HTr.out.at hlt
      cases e1
      have hdr : t.drop k = c :: t.drop (k + 1) := by rw [List.drop_eq_getElem_cons hlt]; congr 1; rw [List.getElem?_eq_getElem hlt] at hc; exact Option.some.inj hc
      obtain ⟨N', rfl⟩ : ∃ N', N = N' + 1 := ⟨N - 1, by have := HN.out; rw [hdr, List.length_cons] at this; omega⟩
      have HDr := hid hdr
      obtain ⟨bD, hbD⟩ : ∃ bD, bD = decide (c ∈ D) := ⟨_, rfl⟩
      have HDc := hid (refHas13_any dv D c wr (HDf.out.kp (Kp.of_below HB.out)))
      rw [← hbD] at HDc
      have HBD := hid hbD
      clear hc hdr hbD
      have hdk : decide ((k : Int) < (t.length : Int)) = true := by simpa using hlt
      by_cases hcc : 0 ≤ c ∧ c ∉ D
      · have hbf : bD = false := by rw [HBD.out]; simp [hcc.2]
        subst hbf
        have hcn : decide (c < 0) = false := by simp; omega
        have hd9 := HDr.out
        obtain ⟨v3, w3, hr3, ho3, hg3, _⟩ := join_one 36 (c := c) HO.out hc1 hc2 HB.out.size (by omega)
        have HR3 := hid hr3
        have HO3 := hid ho3
        have HB3 : Hid (Below w.heap.size w w3) := (below_step HB.out (below_alloc _)).grown hg3 (below_step HB.out (below_alloc _)).size (fun j hj => own_blk HO.out.2 hj)
        have HRn : Hid (R = (sf ++ [c]) ++ (capG ext D N' f (t.drop (k + 1))).1 ∧ F = (capG ext D N' f (t.drop (k + 1))).2) := by
          show _ ∧ _
          rw [HR.out.1, HR.out.2, hd9, capG, if_pos hcc, List.append_assoc]
          exact ⟨rfl, rfl⟩
        have HNn : Hid ((t.drop (k + 1)).length ≤ N') := by
          have h9 := HN.out
          rw [hd9, List.length_cons] at h9
          show _ ≤ _
          omega
        have HMn : Hid (k + 1 = t.length ∨ ∃ m : Int, 1 ≤ m ∧ firstT ext m (k + 1) (t.drop (k + 1)) = ((t.length : Int), 0)) := by
          rcases HM.out with h9 | ⟨m, hm, h9⟩
          · omega
          · rw [hd9] at h9
            obtain ⟨x', r', d, e1, e2, e3⟩ := first_round h9
            simp only [List.cons.injEq] at e1
            obtain ⟨rfl, rfl⟩ := e1
            rcases e3 with ⟨_, e3⟩ | ⟨e3, e4⟩
            · exact .inl (by omega)
            · exact .inr ⟨m + d, by have := codeD_ge HA.out e2; omega, e4⟩
        obtain ⟨ro, rcp, rfl, _, _⟩ := HO.out.shape
        have hsl3 : (sf ++ [c]).length ≤ k + 1 := by rw [List.length_append, List.length_singleton]; omega
        have HL3 := hid hsl3
        clear hr3 ho3 hg3 hd9 hsl3
        go_wp2_with (first
          | (at_builtin; refine wpList_append_run rfl _ _ _ rfl _ _ rfl rfl HR3.out ?_)
          | (go_at_call 34; refine HDc.out.mono ?_; rintro e w9 ⟨rfl, hw9⟩; have hw8 := hw9.symm; subst hw8; clear hw9))
        go_roundw
        case rel => exact ⟨k + 1, f, N', sf ++ [c], by go_num, rfl, by omega, by omega, by omega, HO3.out, HL3.out, HNn.out, HRn.out, HMn.out, HB3.out⟩
        case measure => simp only [intOf]; omega
      · have hd9 := HDr.out
        obtain ⟨m, hm, hf9⟩ : ∃ m : Int, 1 ≤ m ∧ firstT ext m k (t.drop k) = ((t.length : Int), 0) := by
          rcases HM.out with h9 | h9
          · omega
          · exact h9
        have hdl : (t.drop k).length = t.length - k := List.length_drop
        obtain ⟨kk, k1, k2, k3, k4, k5, k6⟩ := head_term HA.out hm (by rw [hf9, hdl]; congr 1; omega : firstT ext m k (t.drop k) = ((k : Int) + (t.drop k).length, 0))
        have hfk2 : firstT ext 1 0 (t.drop k) = ((kk : Int), 0) := by
          have h9 := first_right k4 ((t.drop k).drop kk)
          rw [List.take_append_drop, List.length_take, Nat.min_eq_left k2] at h9
          exact h9
        rw [hdl] at k2 k5
        obtain ⟨v3, w3, hr3, ho3, hg3, _⟩ := join_one 36 (c := -1 - (f : Int)) HO.out (by omega) (by omega) HB.out.size (by omega)
        have HR3 := hid hr3
        have HO3 := hid ho3
        have HB3 : Hid (Below w.heap.size w w3) := (below_step HB.out (below_alloc _)).grown hg3 (below_step HB.out (below_alloc _)).size (fun j hj => own_blk HO.out.2 hj)
        have hdd : (t.drop (k + 1)).drop (kk - 1) = t.drop (k + kk) := by rw [List.drop_drop]; congr 1; omega
        have HRn : Hid (R = (sf ++ [-1 - (f : Int)]) ++ (capG ext D N' (f + 1) (t.drop (k + kk))).1 ∧ F = (capG ext D N' (f + 1) (t.drop (k + kk))).2) := by
          show _ ∧ _
          rw [HR.out.1, HR.out.2, hd9, capG, if_neg hcc, ← hd9, k3, hdd, List.append_assoc]
          exact ⟨rfl, rfl⟩
        have HNn : Hid ((t.drop (k + kk)).length ≤ N') := by
          have h9 := HN.out
          rw [hdl] at h9
          show _ ≤ _
          rw [List.length_drop]
          omega
        have HMn : Hid (k + kk = t.length ∨ ∃ m : Int, 1 ≤ m ∧ firstT ext m (k + kk) (t.drop (k + kk)) = ((t.length : Int), 0)) := by
          by_cases h1 : m = 1
          · exact .inl (by have := k5 h1; omega)
          · refine .inr ⟨m - 1, by omega, ?_⟩
            have h9 := k6 (by omega)
            rw [List.drop_drop] at h9
            rw [h9, hdl]
            congr 1
            omega
        have HEn := hid (refEnd_any sv _ ext t k kk w3 (HS.out.kp (Kp.of_below HB3.out)) (HTt.out.kp (Kp.of_below HB3.out)) HA.out (by omega) hfk2)
        obtain ⟨ro, rcp, rfl, _, _⟩ := HO.out.shape
        have hsl3 : (sf ++ [-1 - (f : Int)]).length ≤ k + kk := by rw [List.length_append, List.length_singleton]; omega
        have HL3 := hid hsl3
        have hwf : IntKind.i64.wrap (-1 - (f : Int)) = -1 - (f : Int) := IntWalk.i64_in _ ⟨by omega, by omega⟩
        have hwf2 : IntKind.i64.wrap ((f : Int) + 1) = ((f + 1 : Nat) : Int) := by rw [IntWalk.i64_in _ ⟨by omega, by omega⟩]; omega
        have HF2 : Hid (((f : Int) + 1) = ((f + 1 : Nat) : Int)) := by show _ = _; omega
        clear hr3 ho3 hg3 hd9 hsl3 hf9 hdl k3 k4 k5 k6 hdd hfk2
        by_cases hcn : c < 0
        · have hcd : decide (c < 0) = true := by simpa using hcn
          go_wp2_with (first
            | (at_builtin; refine wpList_append_run rfl _ _ _ rfl _ _ rfl rfl HR3.out ?_)
            | (go_at_call 36; refine HEn.out.mono ?_; rintro e w9 ⟨rfl, hw9⟩; have hw8 := hw9.symm; subst hw8; clear hw9))
          go_roundw
          case rel => exact ⟨k + kk, f + 1, N', sf ++ [-1 - (f : Int)], by go_num, by go_num, by omega, by omega, by omega, HO3.out, HL3.out, HNn.out, HRn.out, HMn.out, HB3.out⟩
          case measure => simp only [intOf]; omega
        · have hcd : decide (c < 0) = false := by simpa using hcn
          have hbt : bD = true := by
            rw [HBD.out, decide_eq_true_eq]
            by_cases h1 : c ∈ D
            · exact h1
            · exact absurd ⟨by omega, h1⟩ hcc
          subst hbt
          go_wp2_with (first
            | (at_builtin; refine wpList_append_run rfl _ _ _ rfl _ _ rfl rfl HR3.out ?_)
            | (go_at_call 34; refine HDc.out.mono ?_; rintro e w9 ⟨rfl, hw9⟩; have hw8 := hw9.symm; subst hw8; clear hw9)
            | (go_at_call 36; refine HEn.out.mono ?_; rintro e w9 ⟨rfl, hw9⟩; have hw8 := hw9.symm; subst hw8; clear hw9))
          go_roundw
          case rel => exact ⟨k + kk, f + 1, N', sf ++ [-1 - (f : Int)], by go_num, by go_num, by omega, by omega, by omega, HO3.out, HL3.out, HNn.out, HRn.out, HMn.out, HB3.out⟩
          case measure => simp only [intOf]; omega
    · have hke : k = t.length := by omega
      have hd : decide ((k : Int) < (t.length : Int)) = false := by rw [decide_eq_false_iff_not]; omega
      have HRn : Hid (R = sf ∧ F = f) := by
        show _ ∧ _
        rw [HR.out.1, HR.out.2, hke, List.drop_length, capG_nil, List.append_nil]
        exact ⟨rfl, rfl⟩
      clear hke
      go_wp2
      go_ret2
      exact ⟨_, by rw [HRn.out.2]; rfl, by rw [HRn.out.1]; exact HO.out, HB.out⟩

end Go.Proofs.YtoapgbaibpkckaaGreatDoor

/- The document's Edge walked. -/
namespace Go.Proofs.YtoapgbaibpkckaaGreatDoor
open Go.RowKit Go.Maps Go.BigFrame

open Classical in
theorem edge_off {sig : List Sy} {rs : List Rl} {pr ql : List Int} (h : standB sig pr = false ∨ standB sig ql = false) : meetB (extL sig) (exitL sig rs pr) (entryL sig ql) = false := by
  unfold meetB
  refine decide_eq_false fun h9 => ?_
  obtain ⟨h1, h2⟩ := two_ne h9.1
  rcases h with h | h
  · exact h1 (by unfold exitL; rw [if_neg (by rw [h]; decide)])
  · exact h2 (by unfold entryL; rw [if_neg (by rw [h]; decide)])

theorem plain_of13 {sig : List Sy} {rs : List Rl} (h : sysB sig rs = true) : plainE sig = 0 := by
  have h1 := (sys_right h).1
  rw [ahead_plain] at h1
  by_cases h2 : plainE sig = 0
  · exact h2
  · rw [if_neg h2] at h1
    exact absurd h1 h2

set_option maxRecDepth 100000 in
set_option maxHeartbeats 1600000 in
open Classical in
theorem refEdge13_any (sv rv plv prv qlv qrv : Value) (sig : List Sy) (rs : List Rl) (pl pr ql qr : List Int) (w : World) (hs : Sg w sv sig) (hr : RU w rv rs) (hpl : Is w plv pl) (hpr : Is w prv pr) (hql : Is w qlv ql) (hqr : Is w qrv qr) (hl1 : pr.length * 8 ≤ 140737488351232) (hl2 : ql.length * 8 ≤ 140737488351232) :
    Calls Tryz.prog 16 #[.agg #[sv, rv], .agg #[plv, prv], .agg #[qlv, qrv]] w fun e w' => e = .returned (.bool (edgeB sig rs pr ql)) ∧ Below w.heap.size w w' := by
  obtain ⟨so, sc, rfl, _, _, _⟩ := Row.flat hs
  obtain ⟨ro, rc, rfl, _, _, _⟩ := Row.flat hr
  obtain ⟨a1, c1, rfl, _, _, _⟩ := Row.flat hpl
  obtain ⟨a2, c2, rfl, _, _, _⟩ := Row.flat hpr
  obtain ⟨a3, c3, rfl, _, _, _⟩ := Row.flat hql
  obtain ⟨a4, c4, rfl, _, _, _⟩ := Row.flat hqr
  obtain ⟨w0, hw0⟩ : ∃ X, X = ((w.alloc (.cells #[.slice so sig.length sc, .slice ro rs.length rc] 32)).alloc (.cells #[.slice a1 pl.length c1, .slice a2 pr.length c2] 38)).alloc (.cells #[.slice a3 ql.length c3, .slice a4 qr.length c4] 38) := ⟨_, rfl⟩
  have C0 : Hid (Below w.heap.size w w0) := by rw [hw0]; exact below_step (below_step (below_alloc _) (below_alloc _)) (below_alloc _)
  have HC : Hid (∀ W, Below w0.heap.size w0 W → (W.cell? ⟨w.heap.size, 0, none⟩ = some (.slice so sig.length sc) ∧ W.cell? ⟨w.heap.size, 1, none⟩ = some (.slice ro rs.length rc)) ∧ (W.cell? ⟨w.heap.size + 1, 0, none⟩ = some (.slice a1 pl.length c1) ∧ W.cell? ⟨w.heap.size + 1, 1, none⟩ = some (.slice a2 pr.length c2)) ∧ W.cell? ⟨w.heap.size + 1 + 1, 0, none⟩ = some (.slice a3 ql.length c3) ∧ W.cell? ⟨w.heap.size + 1 + 1, 1, none⟩ = some (.slice a4 qr.length c4)) := fun W hW => by
    have hk := Kp.of_below hW
    rw [hw0] at hk
    have e9 : w.heap.size + 1 = (w.alloc (.cells #[.slice so sig.length sc, .slice ro rs.length rc] 32)).heap.size := (World.size_alloc _ _).symm
    have e8 : w.heap.size + 1 + 1 = ((w.alloc (.cells #[.slice so sig.length sc, .slice ro rs.length rc] 32)).alloc (.cells #[.slice a1 pl.length c1, .slice a2 pr.length c2] 38)).heap.size := by rw [World.size_alloc, World.size_alloc]
    rw [e8, e9]
    exact ⟨⟨hk.cell _ _ (cell_old (cell_old (cell_new rfl))), hk.cell _ _ (cell_old (cell_old (cell_new rfl)))⟩, ⟨hk.cell _ _ (cell_old (cell_new rfl)), hk.cell _ _ (cell_old (cell_new rfl))⟩, hk.cell _ _ (cell_new rfl), hk.cell _ _ (cell_new rfl)⟩
  have HRi := hid (refRight_any _ _ sig rs w0 (hs.kp (Kp.of_below C0.out)) (hr.kp (Kp.of_below C0.out)))
  have HSs := hid hs
  have HRs := hid hr
  have H2 := hid hpr
  have H3 := hid hql
  clear hs hr hpl hpr hql hqr
  obtain ⟨⟨x0, x1⟩, ⟨x2, x3⟩, x4, x5⟩ := HC.out w0 (Below.refl _ _)
  obtain ⟨S, hS⟩ : ∃ S, S = sysB sig rs := ⟨_, rfl⟩
  rw [← hS] at HRi
  have HS := hid hS
  obtain ⟨E, hE⟩ : ∃ E, E = edgeB sig rs pr ql := ⟨_, rfl⟩
  rw [← hE]
  have HEe := hid hE
  clear hS hE
  go_enter Tryz.func16, Tryz.ntmps16
  go_upto_region 1 with fail
  rw [← hw0]
  clear hw0
  go_wp2_with fail
  refine HRi.out.mono ?_
  rintro e w1 ⟨rfl, hb1⟩
  have D1 := hid hb1
  have B1 := hid (below_step C0.out hb1)
  clear hb1 x0 x1 x2 x3 x4 x5 HRi
  cases S
  · have HR : Hid (E = false) := by show _ = _; rw [HEe.out]; unfold edgeB; rw [← HS.out]; rfl
    go_wp2
    go_ret
    exact ⟨ret1b HR.out.symm, B1.out⟩
  · have hp0 := plain_of13 HS.out.symm
    have HXt : Hid (Calls Tryz.prog 11 #[.slice so sig.length sc] w1 fun e w' => ∃ v', e = .returned (.tuple #[v', .int .i64 0]) ∧ OS w' w1.heap.size v' (extL sig) ∧ Below w1.heap.size w1 w') := by
      have h9 := refExtend13_any _ sig w1 (HSs.out.kp (Kp.of_below B1.out))
      rw [hp0, if_pos rfl] at h9
      exact h9
    obtain ⟨⟨x0, x1⟩, ⟨x2, x3⟩, x4, x5⟩ := HC.out w1 D1.out
    clear hp0
    go_wp2_with fail
    refine HXt.out.mono ?_
    rintro e w2 ⟨v2, rfl, ho2, hb2⟩
    have B2 := hid (below_step B1.out hb2)
    have D2 := hid (below_step D1.out hb2)
    have HX2 := hid ho2.sg
    obtain ⟨xo, xc, rfl, _, _⟩ := ho2.shape
    clear hb2 ho2 x0 x1 x2 x3 x4 x5 HXt
    obtain ⟨bp, hbp⟩ : ∃ b, b = standB sig pr := ⟨_, rfl⟩
    obtain ⟨bq, hbq⟩ : ∃ b, b = standB sig ql := ⟨_, rfl⟩
    have HB1 : Hid (Calls Tryz.prog 41 #[.slice xo (extL sig).length xc, .slice a2 pr.length c2, .int .i64 (sig.length : Int)] w2 fun e w' => e = .returned (.bool bp) ∧ Below w2.heap.size w2 w') := by
      rw [hbp]
      exact refBegins13_any _ _ (extL sig) pr sig.length w2 HX2.out (H2.out.kp (Kp.of_below B2.out)) hl1
    have HB2 : Hid (∀ W, Below w2.heap.size w2 W → Calls Tryz.prog 41 #[.slice xo (extL sig).length xc, .slice a3 ql.length c3, .int .i64 (sig.length : Int)] W fun e w' => e = .returned (.bool bq) ∧ Below W.heap.size W w') := fun W hW => by
      rw [hbq]
      exact refBegins13_any _ _ (extL sig) ql sig.length W (HX2.out.kp (Kp.of_below hW)) (H3.out.kp (Kp.of_below (below_step B2.out hW))) hl2
    have HBp := hid hbp
    have HBq := hid hbq
    clear hbp hbq
    obtain ⟨⟨x0, x1⟩, ⟨x2, x3⟩, x4, x5⟩ := HC.out w2 D2.out
    cases bp
    · have HR : Hid (E = false) := by show _ = _; rw [HEe.out]; unfold edgeB; rw [edge_off (.inl HBp.out.symm), Bool.and_false]
      go_wp2_with fail
      refine HB1.out.mono ?_
      rintro e w3 ⟨rfl, hb3⟩
      have B3 := hid (below_step B2.out hb3)
      clear hb3
      go_wp2
      go_ret
      exact ⟨ret1b HR.out.symm, B3.out⟩
    · go_wp2_with fail
      refine HB1.out.mono ?_
      rintro e w3 ⟨rfl, hb3⟩
      have B3 := hid (below_step B2.out hb3)
      have D3 := hid (below_step D2.out hb3)
      have E3 := hid hb3
      clear hb3 x0 x1 x2 x3 x4 x5
      obtain ⟨⟨x0, x1⟩, ⟨x2, x3⟩, x4, x5⟩ := HC.out w3 D3.out
      go_wp2_with fail
      refine (HB2.out w3 E3.out).mono ?_
      rintro e w4 ⟨rfl, hb4⟩
      have B4 := hid (below_step B3.out hb4)
      have D4 := hid (below_step D3.out hb4)
      have E4 := hid (below_step E3.out hb4)
      clear hb4 x0 x1 x2 x3 x4 x5 HB1 HB2
      cases bq
      · have HR : Hid (E = false) := by show _ = _; rw [HEe.out]; unfold edgeB; rw [edge_off (.inr HBq.out.symm), Bool.and_false]
        go_wp2
        go_ret
        exact ⟨ret1b HR.out.symm, B4.out⟩
      · obtain ⟨p1, p2, p3, p4⟩ := stand_parts HBp.out.symm
        obtain ⟨q1, q2, q3, q4⟩ := stand_parts HBq.out.symm
        have har := sig_arOk13 p2
        have HEd : Hid (E = meetB (extL sig) (capL (extL sig) (definedL sig rs) pr) (movL (capF (extL sig) (definedL sig rs) pr : Int) (canR ql))) := by
          show _ = _
          rw [HEe.out]
          unfold edgeB
          rw [← HS.out, Bool.true_and]
          exact edge_doc HBp.out.symm HBq.out.symm
        obtain ⟨hcf, _⟩ := capF_right har (definedL sig rs) p3 p4 (by omega)
        have hcl := (capL_right har (definedL sig rs) p3 p4 (by omega)).2.1
        have hcr := (canR_right q3 (by omega)).2.1
        obtain ⟨s1, s2, s3⟩ := can_shift (d := capF (extL sig) (definedL sig rs) pr) q3 q1 (by omega)
        have hsh := mov_ok s1
        have HDe := hid fun (Z : World) (hZ : Below w4.heap.size w4 Z) => refDefined_any _ _ sig rs Z (HSs.out.kp (Kp.of_below (below_step B4.out hZ))) (HRs.out.kp (Kp.of_below (below_step B4.out hZ)))
        have HCa := hid fun (Z : World) (dv : Value) (hZ : Below w4.heap.size w4 Z) (hd : Is Z dv (definedL sig rs)) => refCap13_any _ dv _ (extL sig) (definedL sig rs) pr Z (HX2.out.kp (Kp.of_below (below_step E4.out hZ))) hd (H2.out.kp (Kp.of_below (below_step B4.out hZ))) har p3 p4 p1
        generalize definedL sig rs = D at HEd hcf hcl s1 s2 s3 hsh HDe HCa
        obtain ⟨F, hF⟩ : ∃ F, F = capF (extL sig) D pr := ⟨_, rfl⟩
        obtain ⟨A, hA⟩ : ∃ A, A = capL (extL sig) D pr := ⟨_, rfl⟩
        obtain ⟨Bl, hBl⟩ : ∃ B, B = movL (F : Int) (canR ql) := ⟨_, rfl⟩
        rw [← hF] at HEd hcf s1 s2 s3 hsh HCa
        rw [← hA] at HEd hcl HCa
        rw [← hBl] at HEd s2 s3 hsh
        have HSh := hid hsh
        have hAl : A.length ≤ 512 := by omega
        have hBll : Bl.length ≤ 512 := by omega
        have hF5 : F ≤ 512 := by omega
        have HCr : Hid ((canR ql).length ≤ 512) := by show _ ≤ _; omega
        have hq5 : ql.length ≤ 512 := q1
        clear p1 p2 p3 p4 q1 q2 q3 q4 har hcf hcl hcr s1 s2 s3 hsh hF hA hBl
        have hK0 : ∀ {Z : World}, Below w4.heap.size w4 Z → (Z.cell? ⟨w.heap.size, 0, none⟩ = some (.slice so sig.length sc) ∧ Z.cell? ⟨w.heap.size, 1, none⟩ = some (.slice ro rs.length rc)) ∧ Z.cell? ⟨w.heap.size + 1, 1, none⟩ = some (.slice a2 pr.length c2) := fun hZ => ⟨(HC.out _ (below_step D4.out hZ)).1, (HC.out _ (below_step D4.out hZ)).2.1.2⟩
        go_upto_region 7 with fail
        -- R:cap
        have hS := hK0 (drawn_below1 w4)
        refine wp_region_held_drew (S := fun w' => (w'.cell? ⟨w.heap.size, 0, none⟩ = some (.slice so sig.length sc) ∧ w'.cell? ⟨w.heap.size, 1, none⟩ = some (.slice ro rs.length rc)) ∧ w'.cell? ⟨w.heap.size + 1, 1, none⟩ = some (.slice a2 pr.length c2)) (by kernel_rfl) hS (fun _ => ?_)
        obtain ⟨z0, hz0⟩ : ∃ X, X = w4.drew := ⟨_, rfl⟩
        have b0 : Below w4.heap.size w4 z0 := by rw [hz0]; exact drawn_below1 _
        rw [← hz0] at hS ⊢
        clear hz0
        refine wpAnyH_take (i := 0) (v := .slice xo (extL sig).length xc) rfl (by kernel_rfl) (by kernel_rfl) (by kernel_rfl) (fun _ _ _ h => h) (Or.inl ⟨by kernel_rfl, fun w' h => by go_simp⟩) hS ?_
        (try simp only [Act.put]); (try simp only [List.setIfInBounds_toArray]); (try simp only [List.set_cons_zero, List.set_cons_succ])
        refine wpAnyH_take (i := 1) (v := .agg #[.slice so sig.length sc, .slice ro rs.length rc]) rfl (by kernel_rfl) (by kernel_rfl) (by kernel_rfl) (fun _ _ _ h => h) (Or.inl ⟨by kernel_rfl, fun w' h => by have hh0 := h.1.1; have hh1 := h.1.2; go_simp⟩) hS ?_
        (try simp only [Act.put]); (try simp only [List.setIfInBounds_toArray]); (try simp only [List.set_cons_zero, List.set_cons_succ])
        refine wpAnyH_take (i := 3) (v := .pointer (some ⟨w.heap.size + 1, 1, none⟩)) rfl (by kernel_rfl) (by kernel_rfl) (by kernel_rfl) (fun _ _ _ h => h) (Or.inl ⟨by kernel_rfl, fun w' h => by go_simp⟩) hS ?_
        (try simp only [Act.put]); (try simp only [List.setIfInBounds_toArray]); (try simp only [List.set_cons_zero, List.set_cons_succ])
        refine wpAnyH_take (i := 4) (v := .slice a2 pr.length c2) rfl (by kernel_rfl) (by kernel_rfl) (by kernel_rfl) (fun _ _ _ h => h) (Or.inl ⟨by kernel_rfl, fun w' h => by have hh0 := h.2; go_simp⟩) hS ?_
        (try simp only [Act.put]); (try simp only [List.setIfInBounds_toArray]); (try simp only [List.set_cons_zero, List.set_cons_succ])
        refine wpAnyH_ready (rs := [2]) (by kernel_rfl) (by simp) (AllReadyH.cons rfl (fun Kc hKc => ?_) AllReadyH.nil)
        go_simp
        refine (HDe.out z0 b0).mono ?_
        rintro e z1 ⟨dv, rfl, hd1, hb1⟩
        have b1 := below_step b0 hb1
        have k1 := hK0 b1
        refine hKc.out _ _ k1 (fun _ => ?_)
        clear hKc Kc hS
        have hS := k1
        (try simp only [Act.put]); (try simp only [List.setIfInBounds_toArray]); (try simp only [List.set_cons_zero, List.set_cons_succ])
        refine wpAnyH_ready (rs := [5]) (by kernel_rfl) (by simp) (AllReadyH.cons rfl (fun Kc hKc => ?_) AllReadyH.nil)
        go_simp
        refine (HCa.out z1 dv b1 hd1).mono ?_
        rintro e z2 ⟨u2, rfl, ou2, hb2⟩
        have b2 := below_step b1 hb2
        have k2 := hK0 b2
        refine hKc.out _ _ k2 (fun _ => ?_)
        clear hKc Kc hS
        have hS := k2
        (try simp only [Act.put]); (try simp only [List.setIfInBounds_toArray]); (try simp only [List.set_cons_zero, List.set_cons_succ])
        obtain ⟨ao, ac, rfl, _, _⟩ := ou2.shape
        refine wpAnyH_take (i := 6) (v := .tuple #[.slice ao A.length ac, .int .i64 (F : Int)]) rfl (by kernel_rfl) (by kernel_rfl) (by kernel_rfl) (fun _ _ _ h => h) (Or.inl ⟨by kernel_rfl, fun w' h => by go_simp⟩) hS ?_
        (try simp only [Act.put]); (try simp only [List.setIfInBounds_toArray]); (try simp only [List.set_cons_zero, List.set_cons_succ])
        refine wpAnyH_take (i := 7) (v := .slice ao A.length ac) rfl (by kernel_rfl) (by kernel_rfl) (by kernel_rfl) (fun _ _ _ h => h) (Or.inl ⟨by kernel_rfl, fun w' h => by go_simp⟩) hS ?_
        (try simp only [Act.put]); (try simp only [List.setIfInBounds_toArray]); (try simp only [List.set_cons_zero, List.set_cons_succ])
        refine wpAnyH_take (i := 8) (v := .int .i64 (F : Int)) rfl (by kernel_rfl) (by kernel_rfl) (by kernel_rfl) (fun _ _ _ h => h) (Or.inl ⟨by kernel_rfl, fun w' h => by go_simp⟩) hS ?_
        (try simp only [Act.put]); (try simp only [List.setIfInBounds_toArray]); (try simp only [List.set_cons_zero, List.set_cons_succ])
        refine wpAnyH_take (i := 9) (v := .slice ao A.length ac) rfl (by kernel_rfl) (by kernel_rfl) (by kernel_rfl) (fun _ _ _ h => h) (Or.inl ⟨by kernel_rfl, fun w' h => by go_simp⟩) hS ?_
        (try simp only [Act.put]); (try simp only [List.setIfInBounds_toArray]); (try simp only [List.set_cons_zero, List.set_cons_succ])
        refine wpAnyH_take (i := 10) (v := .int .i64 (F : Int)) rfl (by kernel_rfl) (by kernel_rfl) (by kernel_rfl) (fun _ _ _ h => h) (Or.inl ⟨by kernel_rfl, fun w' h => by go_simp⟩) hS ?_
        (try simp only [Act.put]); (try simp only [List.setIfInBounds_toArray]); (try simp only [List.set_cons_zero, List.set_cons_succ])
        have B5 := hid (below_step B4.out b2)
        have D5 := hid (below_step D4.out b2)
        have E5 := hid (below_step E4.out b2)
        have HAo := hid ou2
        refine wpAnyH_done (by kernel_rfl) ?_ _
        (try simp only [Act.put]); (try simp only [List.getElem_toArray]); (try simp only [List.getElem_cons_succ, List.getElem_cons_zero]); (try simp only [List.setIfInBounds_toArray]); (try simp only [List.set_cons_succ, List.set_cons_zero])
        clear hS k1 k2 hb1 hb2 hd1 ou2 b0 b1 b2
        clear hK0 HDe HCa
        obtain ⟨⟨x0, x1⟩, ⟨x2, x3⟩, x4, x5⟩ := HC.out z2 D5.out
        obtain ⟨W6, hW6⟩ : ∃ X, X = z2.alloc (.cells #[.slice a3 ql.length c3] 36) := ⟨_, rfl⟩
        have b6 : Below z2.heap.size z2 W6 := by rw [hW6]; exact below_alloc _
        have hrs : Rs W6 (.slice (some ⟨z2.heap.size, 0, none⟩) 1 1) [ql] := by
          rw [hW6]
          refine ⟨_, 1, rfl, Nat.le_refl _, by simp [maxLen], fun _ => ⟨z2.heap.size, 0, rfl, by simp, fun k x hk => ?_⟩⟩
          have hk0 : k = 0 := by have := (List.getElem?_eq_some_iff.1 hk).1; simp at this; omega
          subst hk0
          cases hk
          exact ⟨by omega, _, cell_new rfl, (H3.out.kp (Kp.of_below B5.out)).kp (Kp.of_below (below_alloc _))⟩
        have HCn := hid (refCanon_any _ [ql] W6 hrs (by simp) (by simp; omega))
        have B6 := hid (below_step B5.out b6)
        have E6 := hid (below_step E5.out b6)
        have HA6 := hid (HAo.out.later b6)
        have HW6 := hid hW6
        clear hrs b6 hW6
        go_wp2_with fail
        rw [← HW6.out]
        clear HW6 x0 x1 x2 x3 x4 x5
        refine HCn.out.mono ?_
        rintro e w7 ⟨v7, vs7, rfl, ho7, hor7, hb7⟩
        have B7 := hid (below_step B6.out hb7)
        have E7 := hid (below_step E6.out hb7)
        have HA7 := hid (HA6.out.later hb7)
        obtain ⟨u, rfl⟩ : ∃ u, vs7 = [u] := by
          have := hor7.1
          match vs7, this with
          | [u], _ => exact ⟨u, rfl⟩
        have hu := hor7.2 0 u (canR ql) rfl rfl
        have HU := hid hu.is
        obtain ⟨g3, c9, rfl, hc3, hm3⟩ : ∃ g c, v7 = .slice (some ⟨g, 0, none⟩) 1 c ∧ 1 ≤ c ∧ c ≤ maxLen := by
          rcases ho7.2 with ⟨_, h9⟩ | ⟨g, cap, cur, hv, _, _, h8, h7, _⟩
          · simp at h9
          · exact ⟨g, cap, hv, h8, h7⟩
        have hcell : w7.cell? ⟨g3, 0, none⟩ = some u := by
          have := World.ownsRow.cellAt ho7 0 (by simp)
          exact this
        obtain ⟨ua, un, uc, rfl⟩ : ∃ a n c, u = .slice a n c := by obtain ⟨a, c, h, _⟩ := Row.flat HU.out; exact ⟨_, _, _, h⟩
        have HSf := hid (refShift_any _ (canR ql) (F : Int) w7 HU.out (by have := HCr.out; omega) (by omega) (by omega))
        unfold maxLen at hm3
        clear hb7 ho7 hor7 hu HCn
        go_wp2_with fail
        refine HSf.out.mono ?_
        rintro e w8 ⟨v8, rfl, o8, hb8⟩
        rw [HSh.out.1]
        rw [HSh.out.2] at o8
        have B8 := hid (below_step B7.out hb8)
        have HX8 := hid (HX2.out.kp (Kp.of_below (below_step E7.out hb8)))
        have HA8 := hid (HA7.out.later hb8).is
        have HB8 := hid o8.is
        have HCan := hid (refCan6_any _ _ _ (extL sig) A Bl w8 HX8.out HA8.out HB8.out (by omega))
        obtain ⟨bo, bc, rfl, _, _⟩ := o8.shape
        clear hb8 o8 hcell HSf
        go_wp2_with fail
        refine HCan.out.mono ?_
        rintro e w9 ⟨rfl, hb9⟩
        have B9 := hid (below_step B8.out hb9)
        clear hb9 HCan
        obtain ⟨M, hM⟩ : ∃ M, M = meetB (extL sig) A Bl := ⟨_, rfl⟩
        rw [← hM] at HEd
        have hM2 : decide (twoE (extL sig) A Bl = 0 ∧ Unif (extL sig) A Bl) = M := by
          rw [hM]
          rfl
        rw [hM2]
        clear hM hM2
        go_wp2
        go_ret
        exact ⟨ret1b HEd.out.symm, B9.out⟩

end Go.Proofs.YtoapgbaibpkckaaGreatDoor
