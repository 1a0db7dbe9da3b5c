/- Texts of the proof, one behind the other. -/
import Derived.Test.YtelacmijkbgliaaDoorOwn5
import Derived.LaidEqlPtr
import Derived.Test.YtelacmijkbgliaaDoorOwn13
import Derived.Test.YtelacmijkbgliaaDoorOwn11
import Derived.Test.YtelacmijkbgliaaDoorOwn2
import Derived.Test.YtelacmijkbgliaaDoorOwn6
import Derived.Test.YtelacmijkbgliaaDoorOwn8
import Derived.Test.YtelacmijkbgliaaDoorOwn10
/- join of package unify walked. -/
namespace Go.Proofs.YtelacmijkbgliaaDoor
open Go.RowKit Go.Maps Go.BigFrame

theorem snoc6 {α : Type} (l : List α) : l = [] ∨ ∃ xs x, l = xs ++ [x] := by
  rcases List.eq_nil_or_concat l with h | ⟨xs, x, h⟩
  · exact .inl h
  · exact .inr ⟨xs, x, by rw [h, List.concat_eq_append]⟩

theorem under_clp : Tryd.prog.underlying 68 = some (.pointer 76) := by kernel_rfl

theorem info_cls : (Tryd.prog.info? 76).map (·.size) = some 4 := by kernel_rfl

theorem eql_same6 (a : Addr) (w : World) : (binOp .eql 68 (.pointer (some a)) (.pointer (some a))).run Tryd.prog w = .ok (.bool true) w := by
  cases hi : Tryd.prog.info? 76 with
  | none => have h := info_cls; rw [hi] at h; cases h
  | some j => exact run_eql_ptr_same w a under_clp hi

theorem eql_other6 {a b : Nat} {w : World} {ca cb : Array Value} {ta tb : TypeId} (hne : a ≠ b) (ha : w.heap[a]? = some (.cells ca ta (0, 0))) (hb : w.heap[b]? = some (.cells cb tb (0, 0))) : (binOp .eql 68 (.pointer (some ⟨a, 0, none⟩)) (.pointer (some ⟨b, 0, none⟩))).run Tryd.prog w = .ok (.bool false) w := by
  cases hi : Tryd.prog.info? 76 with
  | none => have h := info_cls; rw [hi] at h; cases h
  | some j =>
    have hs : j.size ≠ 0 := by have h := info_cls; rw [hi] at h; simp at h; omega
    exact run_eql_ptr_other w under_clp hi hs (fun e => hne (by cases e; rfl)) ha hb

/-- What join has come to. -/
structure JnR (sig : List Sy) (w w' : World) (B T : Nat) (M : List Nm) (cnt : Nat → Int) (ra rb : Nat) (P : List (Nat × Nat)) (into : Nat → Option Nat) (face root rk : Nat → Nat) : Prop where
  bd : Bd6 w' B T M into face cnt
  fr : Fr6 M.length into root rk
  ok : ClOk (M.map Nm.nd) root face
  wait : ClWait (M.map Nm.nd) root face P
  jn : Jn sig (M.map Nm.nd) ra rb root P
  ch : Ch6 M w w'
  lt : ∀ p ∈ P, p.1 < M.length ∧ p.2 < M.length

/-- The two classes of a pair made one. -/
theorem JnR.uni {sig : List Sy} {w wb wt : World} {B T : Nat} {M : List Nm} {cnt : Nat → Int} {ra rb x y : Nat} {P : List (Nat × Nat)} {into : Nat → Option Nat} {face root rk : Nat → Nat} (ha : ArOk sig) (hL : NdOk sig (M.map Nm.nd)) (h : JnR sig w wb B T M cnt ra rb (P ++ [(x, y)]) into face root rk) (hne : root x ≠ root y) (hcl : clash (M.map Nm.nd) (face (root x)) (face (root y)) = false) {c' d' : Nat} (hcd : (c' = root x ∧ d' = root y) ∨ (c' = root y ∧ d' = root x))
    (hb : Bd6 wt B T M (fun i => if i = d' then some c' else into i) (fun i => if i = c' then faceN (M.map Nm.nd) (face c') (face d') else face i) cnt) (hch : Ch6 M wb wt) :
    JnR sig w wt B T M cnt ra rb (P ++ argP (M.map Nm.nd) (face (root x)) (face (root y))) (fun i => if i = d' then some c' else into i) (uniF face c' (faceN (M.map Nm.nd) (face c') (face d'))) (uniR root c' d') (fun i => if root i = c' then rk i + rk d' + 1 else rk i) ∧ nRoots M.length (uniR root c' d') < nRoots M.length root := by
  have hlen : (M.map Nm.nd).length = M.length := by rw [List.length_map]
  obtain ⟨hx, hy⟩ := h.lt (x, y) (by simp)
  simp only at hx hy
  have hx' : x < (M.map Nm.nd).length := by omega
  have hy' : y < (M.map Nm.nd).length := by omega
  have rx := h.ok.lt x hx'
  have ry := h.ok.lt y hy'
  have ix := h.ok.idem x hx'
  have iy := h.ok.idem y hy'
  have fx := h.ok.face_lt x hx'
  have fy := h.ok.face_lt y hy'
  have hrc : root c' = c' := by rcases hcd with ⟨rfl, rfl⟩ | ⟨rfl, rfl⟩ <;> assumption
  have hrd : root d' = d' := by rcases hcd with ⟨rfl, rfl⟩ | ⟨rfl, rfl⟩ <;> assumption
  have hcl' : c' < M.length := by rcases hcd with ⟨rfl, rfl⟩ | ⟨rfl, rfl⟩ <;> omega
  have hdl' : d' < M.length := by rcases hcd with ⟨rfl, rfl⟩ | ⟨rfl, rfl⟩ <;> omega
  have hne' : c' ≠ d' := by
    rcases hcd with ⟨rfl, rfl⟩ | ⟨rfl, rfl⟩
    · exact hne
    · exact fun e => hne e.symm
  have hfc : face c' < (M.map Nm.nd).length := by rcases hcd with ⟨rfl, rfl⟩ | ⟨rfl, rfl⟩ <;> assumption
  have hfd : face d' < (M.map Nm.nd).length := by rcases hcd with ⟨rfl, rfl⟩ | ⟨rfl, rfl⟩ <;> assumption
  have hcl2 : clash (M.map Nm.nd) (face c') (face d') = false := by
    rcases hcd with ⟨rfl, rfl⟩ | ⟨rfl, rfl⟩
    · exact hcl
    · rw [clash_symm]; exact hcl
  obtain ⟨s1, s2, s3⟩ := uni_step hL h.ok h.jn h.wait hx' hy' (c := c') (d := d') (f := faceN (M.map Nm.nd) (face c') (face d')) (by rcases hcd with ⟨rfl, rfl⟩ | ⟨rfl, rfl⟩; exact .inl ⟨rfl, rfl⟩; exact .inr ⟨rfl, rfl⟩) hne' hcl (uni_face _ _ _) (fun k xs hk => faceN_app hcl2 hfc hk) (fun m hm => faceN_var hfc hfd hm) rfl
  refine ⟨⟨hb, h.fr.uni hcl' hrc hrd hne', s1, s2, s3, h.ch.trans hch, fun p hp => ?_⟩, nRoots_uni hdl' hrd hrc hne'⟩
  rcases List.mem_append.1 hp with hp | hp
  · exact h.lt p (List.mem_append_left _ hp)
  · have h9 := (argP_len ha hL _ _).2 p hp
    omega

set_option maxRecDepth 100000 in
set_option maxHeartbeats 6400000 in
theorem uJoin_any {sig : List Sy} (har : ArOk sig) {w : World} {B T : Nat} {M : List Nm} {into : Nat → Option Nat} {face : Nat → Nat} {cnt : Nat → Int} {root rk : Nat → Nat} {ra rb : Nat} (hL : NdOk sig (M.map Nm.nd)) (hn : M.length ≤ 4194304) (hlow : T ≤ w.heap.size) (hst : JnR sig w w B T M cnt ra rb [(ra, rb)] into face root rk) :
    Calls Tryd.prog 38 #[ndI M ra, ndI M rb] w fun e w' => ∃ ok, e = .returned (.bool ok) ∧ Ch6 M w w' ∧ (ok = false → ∀ V, Val sig (M.map Nm.nd) V → V ra ≠ V rb) ∧ (ok = true → ∃ into' face' root' rk', JnR sig w w' B T M cnt ra rb [] into' face' root' rk') := by
  obtain ⟨hra, hrb⟩ := hst.lt (ra, rb) (by simp)
  simp only at hra hrb
  obtain ⟨ta, ba, ea⟩ := ndI_form hra
  obtain ⟨tb, bb, eb⟩ := ndI_form hrb
  rw [ea, eb]
  have HSt := hid hst
  have HL := hid hL
  have HLo := hid hlow
  obtain ⟨hwf, hsym⟩ := nd_wf har hL
  have HWf := hid hwf
  have HSy := hid hsym
  have HAr := hid har
  have HEa := hid ea
  have HEb := hid eb
  have hst2 := (hst.bd.low)
  clear hst hL hlow hwf hsym har ea eb hst2
  go_enter Tryd.func38, Tryd.ntmps38
  go_wp2
  go_loopg [5] (M.length * 1001 + 1) (fun k v wr => ∃ (P : List (Nat × Nat)) (into' : Nat → Option Nat) (face' root' rk' : Nat → Nat), OwP6 wr w.heap.size v (prV M P) ∧ JnR sig w wr B T M cnt ra rb P into' face' root' rk' ∧ nRoots M.length root' * 1001 + P.length ≤ k ∧ k ≤ M.length * 1001 + 1)
  case atStart =>
    have hbA : Below w.heap.size w (w.alloc (.cells #[.iface ta (.pointer (some ⟨ba, 0, none⟩)), .iface tb (.pointer (some ⟨bb, 0, none⟩))] 97)) := below_alloc _
    refine ⟨[(ra, rb)], into, face, root, rk, ?_, ⟨HSt.out.bd.later hbA, HSt.out.fr, HSt.out.ok, HSt.out.wait, HSt.out.jn, Ch6.of_below hbA, HSt.out.lt⟩, ?_, Nat.le_refl _⟩
    · refine ⟨rfl, .inr ⟨w.heap.size, 1, #[.iface ta (.pointer (some ⟨ba, 0, none⟩)), .iface tb (.pointer (some ⟨bb, 0, none⟩))], rfl, Nat.le_refl _, heap_alloc_new _ _, Nat.le_refl _, by simp [maxLen], rfl, ?_⟩⟩
      unfold prV
      simp only [List.map_cons, List.map_nil]
      rw [HEa.out, HEb.out]
      rfl
    · have := nRoots_le M.length root
      simp only [List.length_cons, List.length_nil]
      omega
  case round =>
    obtain ⟨P, into', face', root', rk', how, hj, hk1, hk2⟩ := hrel
    have HJ := hid hj
    rcases snoc6 P with rfl | ⟨Q, ⟨x, y⟩, rfl⟩
    · obtain ⟨ao, cp, rfl⟩ : ∃ ao cp, u5 = .slice ao 0 cp := by
        rcases how.2 with ⟨h8, _⟩ | ⟨g8, c8, _, h8, _⟩
        · exact ⟨_, _, h8⟩
        · exact ⟨_, _, h8⟩
      clear how hj hk1 hk2
      go_wp2
      go_ret
      exact ⟨true, rfl, HJ.out.ch, fun h => (by cases h), fun _ => ⟨into', face', root', rk', HJ.out⟩⟩
    · obtain ⟨hx, hy⟩ := hj.lt (x, y) (by simp)
      simp only at hx hy
      obtain ⟨mx, hmx⟩ : ∃ m, M[x]? = some m := ⟨_, List.getElem?_eq_getElem hx⟩
      obtain ⟨my, hmy⟩ : ∃ m, M[y]? = some m := ⟨_, List.getElem?_eq_getElem hy⟩
      have hpv : prV M (Q ++ [(x, y)]) = prV M Q ++ [(ndI M x, ndI M y)] := by unfold prV; rw [List.map_append]; rfl
      rw [hpv] at how
      have hql : (prV M Q).length = Q.length := by unfold prV; rw [List.length_map]
      obtain ⟨g, cp, hv, hge, hcp1, hcp2, hca, hcb⟩ := own_lastP6 how (k := (prV M Q).length) (p := (ndI M x, ndI M y)) (by simp)
      have hll : (prV M Q ++ [(ndI M x, ndI M y)]).length = (prV M Q).length + 1 := by simp
      rw [hll] at hv hcp1
      subst hv
      have hct := own_cutP6 (k := (prV M Q).length) (by rw [hll]; exact how) (by rw [hll]; omega)
      rw [List.take_left] at hct
      obtain ⟨N, hN⟩ : ∃ N, N = (prV M Q).length := ⟨_, rfl⟩
      rw [← hN] at hca hcb hct hcp1 ⊢
      have HCt := hid hct
      have HMx := hid hmx
      have HMy := hid hmy
      have hNQ : N = Q.length := by rw [hN, hql]
      have HNQ := hid hNQ
      have hw1 : IntKind.i64.wrap ((N : Int) + 1 - 1) = (N : Int) := by rw [IntWalk.i64_in _ ⟨by omega, by omega⟩]; omega
      have hw1' : IntKind.i64.wrap (N : Int) = (N : Int) := IntWalk.i64_in _ ⟨by omega, by omega⟩
      have hxc : N ≤ cp := by omega
      obtain ⟨tx, bx, ex⟩ := ndI_form hx
      obtain ⟨tY, bY, ey⟩ := ndI_form hy
      simp only at hca hcb
      rw [ex] at hca
      rw [ey] at hcb
      obtain ⟨WA, hWA⟩ : ∃ X, X = wr.alloc (.cells #[.iface tx (.pointer (some ⟨bx, 0, none⟩)), .iface tY (.pointer (some ⟨bY, 0, none⟩))] 97) := ⟨_, rfl⟩
      have bA : Below wr.heap.size wr WA := by rw [hWA]; exact below_alloc _
      have HbA := hid bA
      have HBA := hid (hj.bd.later bA)
      have HF' := hid hj.fr
      have s0 : WA.cell? ⟨wr.heap.size, 0, none⟩ = some (.iface tx (.pointer (some ⟨bx, 0, none⟩))) := by rw [hWA]; exact cell_new rfl
      have s1 : WA.cell? ⟨wr.heap.size, 1, none⟩ = some (.iface tY (.pointer (some ⟨bY, 0, none⟩))) := by rw [hWA]; exact cell_new rfl
      have HK1 := hid hk1
      have HK2 := hid hk2
      have HEx := hid ex
      have HEy := hid ey
      have s1d := (Kp.of_below (drawn_below1 WA)).cell _ _ s1
      have HNc : Hid (∀ m ∈ M, m.cls ≠ wr.heap.size) := fun m hm e => by have h9 := (hj.bd.low m hm).1.2; have h8 := HLo.out; have h7 := hj.ch.size; omega
      clear how hct hj hk1 hk2 hpv hql hll hN hNQ bA ex ey
      go_upto_region 5 with fail
      rw [← hWA]
      clear hWA hca hcb hw1 hw1'
      go_cut [7, 8] from 15 to 57 (fun p q wx => ∃ into2, p = clV M (root' x) ∧ q = clV M (root' y) ∧ Bd6 wx B T M into2 face' cnt ∧ Fr6 M.length into2 root' rk' ∧ Ch6 M WA wx)
      case first =>
        cases hnx : mx.nd with
        | var n =>
          have e1 := (HEx.out.symm.trans (ndI_var hmx hnx))
          simp only [Value.iface.injEq, Value.pointer.injEq, Option.some.injEq, Addr.mk.injEq, and_true] at e1
          obtain ⟨rfl, rfl⟩ := e1
          cases hny : my.nd with
          | var n' =>
            have e2 := (HEy.out.symm.trans (ndI_var hmy hny))
            simp only [Value.iface.injEq, Value.pointer.injEq, Option.some.injEq, Addr.mk.injEq, and_true] at e2
            obtain ⟨rfl, rfl⟩ := e2
            clear hmx hmy
            have HCx := hid (varClass_any (HBA.out.later (drawn_below1 WA)) HF'.out HMx.out hnx)
            have HCy := hid (varClass_any (HBA.out.later (drawn_below1 WA)) HF'.out HMy.out hny)
            go_region_with (first
              | (refine HCx.out.mono ?_; rintro e wa ⟨ia, rfl, _, hba, hfa, hca⟩; have HBa := hid hba; have HFa := hid hfa; have HCa := hid hca; have s1a := hca.cell HNc.out s1d; clear hba hfa hca)
              | (refine (varClass_any HBa.out HFa.out HMy.out hny).mono ?_; rintro e wb ⟨ib, rfl, _, hbb, hfb, hcb⟩; have HBb := hid hbb; have HFb := hid hfb; have HCb := hid (HCa.out.trans hcb); clear hbb hfb hcb))
            all_goals (
              simp only [Act.put, List.getElem_toArray, List.getElem_cons_succ, List.getElem_cons_zero, List.setIfInBounds_toArray, List.set_cons_succ, List.set_cons_zero]
              go_wp2
              go_meet
              case rel => exact ⟨ib, rfl, rfl, HBb.out, HFb.out, (Ch6.of_below (drawn_below1 WA)).trans HCb.out⟩)
          | app c' ys' =>
            have e2 := (HEy.out.symm.trans (ndI_app hmy hny))
            simp only [Value.iface.injEq, Value.pointer.injEq, Option.some.injEq, Addr.mk.injEq, and_true] at e2
            obtain ⟨rfl, rfl⟩ := e2
            clear hmx hmy
            have HCx := hid (varClass_any (HBA.out.later (drawn_below1 WA)) HF'.out HMx.out hnx)
            have HCy := hid (appClass_any (HBA.out.later (drawn_below1 WA)) HF'.out HMy.out hny)
            go_region_with (first
              | (refine HCx.out.mono ?_; rintro e wa ⟨ia, rfl, _, hba, hfa, hca⟩; have HBa := hid hba; have HFa := hid hfa; have HCa := hid hca; have s1a := hca.cell HNc.out s1d; clear hba hfa hca)
              | (refine (appClass_any HBa.out HFa.out HMy.out hny).mono ?_; rintro e wb ⟨ib, rfl, _, hbb, hfb, hcb⟩; have HBb := hid hbb; have HFb := hid hfb; have HCb := hid (HCa.out.trans hcb); clear hbb hfb hcb))
            all_goals (
              simp only [Act.put, List.getElem_toArray, List.getElem_cons_succ, List.getElem_cons_zero, List.setIfInBounds_toArray, List.set_cons_succ, List.set_cons_zero]
              go_wp2
              go_meet
              case rel => exact ⟨ib, rfl, rfl, HBb.out, HFb.out, (Ch6.of_below (drawn_below1 WA)).trans HCb.out⟩)
        | app c xs =>
          have e1 := (HEx.out.symm.trans (ndI_app hmx hnx))
          simp only [Value.iface.injEq, Value.pointer.injEq, Option.some.injEq, Addr.mk.injEq, and_true] at e1
          obtain ⟨rfl, rfl⟩ := e1
          cases hny : my.nd with
          | var n' =>
            have e2 := (HEy.out.symm.trans (ndI_var hmy hny))
            simp only [Value.iface.injEq, Value.pointer.injEq, Option.some.injEq, Addr.mk.injEq, and_true] at e2
            obtain ⟨rfl, rfl⟩ := e2
            clear hmx hmy
            have HCx := hid (appClass_any (HBA.out.later (drawn_below1 WA)) HF'.out HMx.out hnx)
            have HCy := hid (varClass_any (HBA.out.later (drawn_below1 WA)) HF'.out HMy.out hny)
            go_region_with (first
              | (refine HCx.out.mono ?_; rintro e wa ⟨ia, rfl, _, hba, hfa, hca⟩; have HBa := hid hba; have HFa := hid hfa; have HCa := hid hca; have s1a := hca.cell HNc.out s1d; clear hba hfa hca)
              | (refine (varClass_any HBa.out HFa.out HMy.out hny).mono ?_; rintro e wb ⟨ib, rfl, _, hbb, hfb, hcb⟩; have HBb := hid hbb; have HFb := hid hfb; have HCb := hid (HCa.out.trans hcb); clear hbb hfb hcb))
            all_goals (
              simp only [Act.put, List.getElem_toArray, List.getElem_cons_succ, List.getElem_cons_zero, List.setIfInBounds_toArray, List.set_cons_succ, List.set_cons_zero]
              go_wp2
              go_meet
              case rel => exact ⟨ib, rfl, rfl, HBb.out, HFb.out, (Ch6.of_below (drawn_below1 WA)).trans HCb.out⟩)
          | app c' ys' =>
            have e2 := (HEy.out.symm.trans (ndI_app hmy hny))
            simp only [Value.iface.injEq, Value.pointer.injEq, Option.some.injEq, Addr.mk.injEq, and_true] at e2
            obtain ⟨rfl, rfl⟩ := e2
            clear hmx hmy
            have HCx := hid (appClass_any (HBA.out.later (drawn_below1 WA)) HF'.out HMx.out hnx)
            have HCy := hid (appClass_any (HBA.out.later (drawn_below1 WA)) HF'.out HMy.out hny)
            go_region_with (first
              | (refine HCx.out.mono ?_; rintro e wa ⟨ia, rfl, _, hba, hfa, hca⟩; have HBa := hid hba; have HFa := hid hfa; have HCa := hid hca; have s1a := hca.cell HNc.out s1d; clear hba hfa hca)
              | (refine (appClass_any HBa.out HFa.out HMy.out hny).mono ?_; rintro e wb ⟨ib, rfl, _, hbb, hfb, hcb⟩; have HBb := hid hbb; have HFb := hid hfb; have HCb := hid (HCa.out.trans hcb); clear hbb hfb hcb))
            all_goals (
              simp only [Act.put, List.getElem_toArray, List.getElem_cons_succ, List.getElem_cons_zero, List.setIfInBounds_toArray, List.set_cons_succ, List.set_cons_zero]
              go_wp2
              go_meet
              case rel => exact ⟨ib, rfl, rfl, HBb.out, HFb.out, (Ch6.of_below (drawn_below1 WA)).trans HCb.out⟩)
      obtain ⟨into2, rfl, rfl, hb2, hf2, hc2⟩ := hcut
      obtain ⟨w2, hw2⟩ : ∃ W, W = wc := ⟨_, rfl⟩
      rw [← hw2] at hb2 hc2 ⊢
      clear hw2 s0 s1 s1d
      have hcw : ∀ m ∈ M, m.cls < w.heap.size := fun m hm => Nat.lt_of_lt_of_le (HBA.out.low m hm).1.2 HLo.out
      have HJ2 : Hid (JnR sig w w2 B T M cnt ra rb (Q ++ [(x, y)]) into2 face' root' rk') := ⟨hb2, hf2, HJ.out.ok, HJ.out.wait, HJ.out.jn, (HJ.out.ch.trans (Ch6.of_below HbA.out)).trans hc2, HJ.out.lt⟩
      have HO2 : Hid (OwP6 w2 w.heap.size (.slice (some ⟨g, 0, none⟩) N cp) (prV M Q)) := own_ch6 (own_ch6 HCt.out (Ch6.of_below HbA.out) hcw) hc2 hcw
      have hlen : (M.map Nm.nd).length = M.length := by rw [List.length_map]
      have hrx : root' x < M.length := by have := HJ.out.ok.lt x (by omega); omega
      have hry : root' y < M.length := by have := HJ.out.ok.lt y (by omega); omega
      obtain ⟨mr, hmr⟩ : ∃ m, M[root' x]? = some m := ⟨_, List.getElem?_eq_getElem hrx⟩
      obtain ⟨ms, hms⟩ : ∃ m, M[root' y]? = some m := ⟨_, List.getElem?_eq_getElem hry⟩
      rw [clV_eq hmr, clV_eq hms]
      have HMr := hid hmr
      have HMs := hid hms
      have HHy := hid hmy
      clear hb2 hf2 hc2 HCt HJ HBA HF' HbA HNc hmx hmy HEx HEy
      by_cases he : root' x = root' y
      · have hmm : ms = mr := by rw [he, hms] at hmr; exact Option.some.inj hmr
        subst hmm
        have HJn := hid (jn_skip HJ2.out.jn HJ2.out.wait he)
        have heq := eql_same6 ⟨ms.cls, 0, none⟩ w2
        clear hmr hms he hlen hcw
        go_wp2
        go_roundg (nRoots M.length root' * 1001 + Q.length)
        case measure => have := HK1.out; rw [List.length_append, List.length_singleton] at this; omega
        case rel => exact ⟨Q, into2, face', root', rk', HO2.out, ⟨HJ2.out.bd, HJ2.out.fr, HJ2.out.ok, HJn.out.2, HJn.out.1, HJ2.out.ch, fun p hp => HJ2.out.lt p (List.mem_append_left _ hp)⟩, Nat.le_refl _, by have h1 := HK1.out; have h2 := HK2.out; rw [List.length_append, List.length_singleton] at h1; omega⟩
      · have hcne : ¬ mr.cls = ms.cls := fun e => he (HJ2.out.bd.inj _ _ _ _ hmr hms e)
        have hfx : face' (root' x) < M.length := by have := HJ2.out.ok.face_lt x (by omega); omega
        have hfy : face' (root' y) < M.length := by have := HJ2.out.ok.face_lt y (by omega); omega
        obtain ⟨k1, hb1, _, _, p2, _⟩ := HJ2.out.bd.clc hmr
        obtain ⟨k2, hb2, _, _, q2, _⟩ := HJ2.out.bd.clc hms
        have heq := eql_other6 hcne hb1 hb2
        clear hb1 hb2
        have HAp := hid (uArgs_any (HJ2.out.bd.later (drawn_below1 w2)) (Nat.le_trans (Nat.le_trans HLo.out HJ2.out.ch.size) (drawn_below1 w2).size) HWf.out HSy.out hfx hfy)
        obtain ⟨CL, hCL⟩ : ∃ CL, CL = clash (M.map Nm.nd) (face' (root' x)) (face' (root' y)) := ⟨_, rfl⟩
        obtain ⟨AP, hAP⟩ : ∃ AP, AP = argP (M.map Nm.nd) (face' (root' x)) (face' (root' y)) := ⟨_, rfl⟩
        rw [← hCL, ← hAP] at HAp
        have HCL := hid hCL
        have HAPe := hid hAP
        have HNe := hid he
        obtain ⟨tu, bu, eu⟩ := ndI_form hfx
        obtain ⟨tv, bv, ev⟩ := ndI_form hfy
        rw [eu] at p2 HAp
        rw [ev] at q2 HAp
        clear hmr hms he hCL hAP eu ev
        go_upto_region 7 with fail
        go_cut [9, 10] from 15 to 57 (fun p q wx => q = .bool (!CL) ∧ (CL = false → OwP6 wx w2.heap.size p (prV M AP)) ∧ Below w2.heap.size w2 wx)
        case first =>
          go_region_with (first
            | (refine HAp.out.mono ?_; rintro e w3 ⟨v3, rfl, o3, hb3⟩; have HO3 := hid o3; have J3 := hid (below_step (Below.refl _ _).drew hb3); clear o3 hb3))
          all_goals (
            simp only [Act.put, List.getElem_toArray, List.getElem_cons_succ, List.getElem_cons_zero, List.setIfInBounds_toArray, List.set_cons_succ, List.set_cons_zero]
            go_wp2
            go_meet
            case rel => exact ⟨rfl, HO3.out, J3.out⟩)
        obtain ⟨rfl, ho3, hj3⟩ := hcut
        obtain ⟨w3, hw3⟩ : ∃ W, W = wc := ⟨_, rfl⟩
        rw [← hw3] at ho3 hj3 ⊢
        clear hw3 p2 q2 HAp
        have J3 := hid hj3
        have HO3 := hid ho3
        have HC3 := hid (HJ2.out.ch.trans (Ch6.of_below hj3))
        clear ho3 hj3
        cases CL with
        | true =>
          go_wp2
          go_ret
          exact ⟨false, rfl, HC3.out, fun _ => clash_none HJ2.out.ok HJ2.out.jn (by omega) (by omega) HCL.out.symm, fun h => (by cases h)⟩
        | false =>
          have HTk := hid (take_any (HJ2.out.bd.later J3.out) HMr.out HMs.out HNe.out hfx hfy)
          go_wp2_with fail
          refine HTk.out.mono ?_
          rintro e w4 ⟨rfl, c', d', hcd, hb4, hc4⟩
          have o4 : OwP6 w4 w.heap.size (.slice (some ⟨g, 0, none⟩) N cp) (prV M Q) := own_ch6 (own_ch6 HO2.out (Ch6.of_below J3.out) hcw) hc4 hcw
          have o9 := own_ch6 (HO3.out (by first | rfl | trivial)) hc4 (fun m hm => Nat.lt_of_lt_of_le (hcw m hm) HJ2.out.ch.size)
          obtain ⟨hJ4, hnr⟩ := HJ2.out.uni HAr.out HL.out HNe.out HCL.out.symm hcd hb4 ((Ch6.of_below J3.out).trans hc4)
          rw [← HAPe.out] at hJ4
          have hapl := argP_len HAr.out HL.out (face' (root' x)) (face' (root' y))
          rw [← HAPe.out] at hapl
          have hpl : (prV M AP).length = AP.length := by unfold prV; rw [List.length_map]
          obtain ⟨ao9, cap9, hv9, hc9⟩ : ∃ ao cap, u9 = .slice ao (prV M AP).length cap ∧ (prV M AP = [] ∨ ∃ g, ao = some ⟨g, 0, none⟩ ∧ ∀ (j : Nat) (u : Value), (prC (prV M AP))[j]? = some u → w4.cell? ⟨g, 0 + j, none⟩ = some u) := by
            rcases o9.2 with ⟨h8, h9⟩ | ⟨g8, c8, cur8, h8, _, hg8, _⟩
            · exact ⟨none, 0, by rw [h8, h9], .inl (List.eq_nil_of_length_eq_zero h9)⟩
            · refine ⟨_, c8, h8, .inr ⟨g8, rfl, fun j u hj => ?_⟩⟩
              subst h8
              have hjl := (List.getElem?_eq_some_iff.1 hj).1
              rw [prC_len] at hjl
              rw [Nat.zero_add, World.ownsRow.cellAt o9 j (by omega)]
              exact hj
          have hsz4 : w.heap.size ≤ w4.heap.size := hJ4.ch.size
          have hNb : N + AP.length ≤ 9223372036 := by have h1 := HK1.out; have h2 := HK2.out; have h3 := HNQ.out; rw [List.length_append, List.length_singleton] at h1; omega
          obtain ⟨v5, w5, hr5, o5, g5, _⟩ := join_pairs6 98 (ys := prV M AP) (ao := ao9) (cap := cap9) o4 (by rcases hc9 with h | ⟨g8, h1, h2⟩; exact .inl h; exact .inr ⟨g8, 0, h1, h2⟩) (prV_one (fun p hp => by have := hapl.2 p hp; omega)) hsz4 (by rw [hpl]; have := HNQ.out; have hq : (prV M Q).length = Q.length := (by unfold prV; rw [List.length_map]); omega)
          have hpq : prV M (Q ++ AP) = prV M Q ++ prV M AP := by unfold prV; rw [List.map_append]
          rw [← hpq] at o5
          have hB5 : ∀ b, b < w.heap.size → w5.heap[b]? = w4.heap[b]? := fun b hb9 => g5.block b (Nat.lt_of_lt_of_le hb9 hsz4) (fun e9 => by have := own_blk o4 e9.symm; omega)
          have HJ5 : Hid (JnR sig w w5 B T M cnt ra rb (Q ++ AP) (fun i => if i = d' then some c' else into2 i) (uniF face' c' (faceN (M.map Nm.nd) (face' c') (face' d'))) (uniR root' c' d') (fun i => if root' i = c' then rk' i + rk' d' + 1 else rk' i)) := ⟨hJ4.bd.keep fun b hb9 => hB5 b (Nat.lt_of_lt_of_le hb9 HLo.out), hJ4.fr, hJ4.ok, hJ4.wait, hJ4.jn, ⟨g5.os.trans hJ4.ch.os, g5.tape.trans hJ4.ch.tape, g5.output.trans hJ4.ch.output, Nat.le_trans hJ4.ch.size g5.size, fun b hb9 hm9 => (hB5 b hb9).trans (hJ4.ch.block b hb9 hm9)⟩, hJ4.lt⟩
          have HR5 := hid hr5
          have HO5 := hid o5
          have HNr := hid hnr
          have HAl := hid hapl.1
          subst hv9
          clear hcd hb4 hc4 o4 o9 hJ4 hnr hapl hc9 hr5 o5 g5 hpq hB5 HTk hpl hsz4 hNb hlen hcw hcne heq
          go_wp2_with (first
            | (at_builtin; refine wpList_append_run rfl _ _ _ rfl _ _ rfl rfl HR5.out ?_))
          go_roundg (nRoots M.length (uniR root' c' d') * 1001 + (Q ++ AP).length)
          case measure => have h1 := HK1.out; have h2 := HNr.out; have h3 := HAl.out; rw [List.length_append] at h1 ⊢; rw [List.length_singleton] at h1; omega
          case rel => exact ⟨Q ++ AP, _, _, _, _, HO5.out, HJ5.out, Nat.le_refl _, by have h1 := HK1.out; have h2 := HNr.out; have h3 := HAl.out; have h4 := HK2.out; rw [List.length_append] at h1 ⊢; rw [List.length_singleton] at h1; omega⟩

end Go.Proofs.YtelacmijkbgliaaDoor

/- solve of package unify walked. -/
namespace Go.Proofs.YtelacmijkbgliaaDoor
open Go.RowKit Go.Maps Go.BigFrame

theorem MapV.same {w w' : World} {b : Nat} {L : List (Int × Value)} (h : MapV w b L) (he : w'.heap[b]? = w.heap[b]?) : MapV w' b L := by
  obtain ⟨D, ⟨es, clock, hb, hr⟩, h2⟩ := h
  exact ⟨D, ⟨es, clock, he.trans hb, hr⟩, h2⟩

theorem bd_none (w : World) (B T : Nat) : Bd6 w B T [] (fun _ => none) id (fun _ => 0) :=
  ⟨fun i j m m' h => (by cases h), fun m h => (by cases h), fun m h => (by cases h), fun m h => (by cases h), fun i m h => (by cases h)⟩

theorem ok_none (sig : List Sy) : NdOk sig [] := ⟨fun i n h => (by cases h), fun i c xs h => (by cases h), fun i c xs h => (by cases h), fun i j n h => (by cases h)⟩

theorem fr_none (n : Nat) : Fr6 n (fun _ => none) id (fun _ => 0) := fun i _ => ⟨fun _ => rfl, fun j h => (by cases h)⟩

theorem ci_none (M : List Nm) (root face : Nat → Nat) {r : Nat} (hr : r < M.length) (hrr : root r = r) : CI M root face r (fun _ => 0) [r] :=
  ⟨fun i _ _ => .inl rfl, fun q hq => by rw [List.mem_singleton] at hq; subst hq; exact ⟨hr, hrr⟩, fun q _ _ h => by simp at h, .inr rfl, fun q _ _ h => by simp at h⟩

theorem vm_none : Vm6 [] [] := fun n v => ⟨fun h => (by cases h), fun ⟨i, m, h, _⟩ => (by cases h)⟩

/-- The two terms' nodes. -/
structure Two6 (sig : List Sy) (a b : List Int) (M : List Nm) (L : List (Int × Value)) (ra rb : Nat) : Prop where
  ok : NdOk sig (M.map (·.nd))
  vm : Vm6 M L
  ta : TmC (M.map (·.nd)) id id ra a
  tb : TmC (M.map (·.nd)) id id rb b
  cov : ∀ i, i < M.length → Bel (M.map (·.nd)) ra i ∨ Bel (M.map (·.nd)) rb i
  few : M.length ≤ a.length + b.length

/-- Joined and counted. -/
structure Slvd (sig : List Sy) (w w' : World) (a b : List Int) (M : List Nm) (L : List (Int × Value)) (ra rb : Nat) (T : Nat) (into : Nat → Option Nat) (face root rk : Nat → Nat) (cnt : Nat → Int) : Prop where
  map : MapV w' w.heap.size L
  bd : Bd6 w' (w.heap.size + 1) T M into face cnt
  top : T ≤ w'.heap.size
  fr : Fr6 M.length into root rk
  ok : ClOk (M.map (·.nd)) root face
  wait : ClWait (M.map (·.nd)) root face []
  jn : Jn sig (M.map (·.nd)) ra rb root []
  ci : CI M root face (root ra) cnt []

theorem grown_map {a b : World} {k B : Nat} (h : a.grownBy b (some k)) (hB : B ≤ k) (hs : B ≤ a.heap.size) : Below B a b :=
  ⟨h.os, h.tape, h.output, h.size, fun i hi => h.block i (by omega) (fun e => by cases e; omega)⟩

set_option maxRecDepth 100000 in
set_option maxHeartbeats 3200000 in
theorem solve_any (sv v1 v2 : Value) (sig : List Sy) (a b : List Int) (w : World) (hs : Sg w sv sig) (h1 : Is w v1 a) (h2 : Is w v2 b) (ha : ArOk sig) (hra : rowE sig a = 0) (hrb : rowE sig b = 0) (hl : a.length + b.length ≤ 4194304) :
    Calls Tryd.prog 23 #[sv, v1, v2] w fun e w' => Below w.heap.size w w' ∧ ∃ M L ra rb, Two6 sig a b M L ra rb ∧ ((e = .returned (.tuple #[.map none, .bool false]) ∧ ∀ V, Val sig (M.map (·.nd)) V → V ra ≠ V rb) ∨ (e = .returned (.tuple #[.map (some w.heap.size), .bool true]) ∧ ∃ T into face root rk cnt, Slvd sig w w' a b M L ra rb T into face root rk cnt)) := by
  have hmm : (Instr.makeMap 43 none).run Tryd.prog w = .ok (.map (some w.heap.size)) (w.alloc (.map #[] 0)) := by
    simp [Instr.makeMap, Result.andThen]
  have hsz0 : (w.alloc (.map #[] 0)).heap.size = w.heap.size + 1 := by simp
  have hk0 := Kp.of_below (below_alloc (w := w) (.map #[] 0))
  have HG1 := hid (growU_any sv v1 sig a w.heap.size (w.heap.size + 1) [] [] (w.alloc (.map #[] 0)) (hs.kp hk0) (h1.kp hk0) ha hra (by omega) (MapV.made w) vm_none (Nat.le_refl _) (bd_none _ _ _) (ok_none sig) ⟨by omega, by omega⟩ (by unfold maxLen; simp only [List.length_nil]; omega))
  have HS := hid (hs.kp hk0)
  have H2 := hid (h2.kp hk0)
  have HA := hid ha
  have HRb := hid hrb
  obtain ⟨es0, ck0, hes0⟩ := (MapV.made w).isMap
  have HKm : Hid (∀ W : World, (w.alloc (.map #[] 0)).grownBy W (some w.heap.size) → Kp (w.alloc (.map #[] 0)) W) := fun W hg => Kp.of_map hg hes0
  have HB0 := hid (below_alloc (w := w) (.map #[] 0))
  clear hs h1 h2 ha hra hrb hk0 hes0
  go_enter Tryd.func23, Tryd.ntmps23
  go_wp2_with fail
  refine HG1.out.mono ?_
  rintro e w1 ⟨M1, L1, ra, rfl, hm1, hv1, hf1, hb1, hk1, _, ht1, hbe1, hl1, hg1⟩
  have hra1 : ra < M1.length := by have := tmC_lt ht1; rwa [List.length_map] at this
  have hs1 := hg1.size
  have HG2 := hid (growU_any sv v2 sig b w.heap.size (w.heap.size + 1) M1 L1 w1 (HS.out.kp (HKm.out w1 hg1)) (H2.out.kp (HKm.out w1 hg1)) HA.out HRb.out (by omega) hm1 hv1 hf1 hb1 hk1 ⟨by omega, by omega⟩ (by unfold maxLen; simp only [List.length_nil] at hl1; omega))
  obtain ⟨N1, hN1⟩ : ∃ x, x = ndI M1 ra := ⟨_, rfl⟩
  rw [← hN1]
  have HN1 := hid hN1
  have H1a := hid ht1
  have H1b := hid hbe1
  have H1c := hid hg1
  have H1l := hid hl1
  clear hm1 hv1 hf1 hb1 hk1 ht1 hbe1 hl1 hg1 hN1 HG1
  go_wp2_with fail
  refine HG2.out.mono ?_
  rintro e w2 ⟨M, L, rb, rfl, hm2, hv2, hf2, hb2, hk2, ⟨X2, hX2⟩, ht2, hbe2, hl2, hg2⟩
  have hext : ∀ (j : Nat) (d : Nd), (M1.map (·.nd))[j]? = some d → (M.map (·.nd))[j]? = some d := fun j d hj => by
    rw [hX2, List.map_append, List.getElem?_append_left (List.getElem?_eq_some_iff.1 hj).1]
    exact hj
  have hM1 : M1.length ≤ M.length := by rw [hX2, List.length_append]; omega
  have hl1 := H1l.out
  simp only [List.length_nil] at hl1
  have hTwo : Two6 sig a b M L ra rb := ⟨hk2, hv2, tmC_ext hext H1a.out, ht2, fun i hi => by
    by_cases e : i < M1.length
    · exact .inl ((H1b.out i (Nat.zero_le _) e).ext hext)
    · exact .inr (hbe2 i (by omega) hi), by omega⟩
  have hra : ra < M.length := by omega
  have hrb : rb < M.length := by have := tmC_lt ht2; rwa [List.length_map] at this
  have hNa : N1 = ndI M ra := by
    rw [HN1.out, hX2]
    unfold ndI
    rw [List.getElem?_append_left hra1]
  rw [hNa]
  have hs2 := hg2.size
  have hw2 : Below w.heap.size w w2 := by
    have h8 := grown_map (grown_trans6 H1c.out hg2) (Nat.le_refl _) (by omega)
    exact ⟨h8.os.trans HB0.out.os, h8.tape.trans HB0.out.tape, h8.output.trans HB0.out.output, by omega, fun k hk => (h8.block k hk).trans (HB0.out.block k hk)⟩
  have hlow : ∀ m ∈ M, w.heap.size + 1 ≤ m.cls := fun m hm => (hb2.low m hm).1.1
  have HJ := hid (uJoin_any HA.out (ra := ra) (rb := rb) hk2 (by omega) (Nat.le_refl _) ⟨hb2, fr_none _, cl_start hk2, wait_start _ _, jn_start _ _ _ _, Ch6.refl _ _, fun p hp => by rw [List.mem_singleton] at hp; subst hp; exact ⟨hra, hrb⟩⟩)
  have HTwo := hid hTwo
  have HW2 := hid hw2
  have HLow := hid hlow
  have HMp := hid hm2
  have HOk := hid hk2
  have hmb : w.heap.size < w2.heap.size := by omega
  have hMl : M.length ≤ 4194304 := by omega
  obtain ⟨ma, hma⟩ : ∃ m, M[ra]? = some m := ⟨_, List.getElem?_eq_getElem hra⟩
  have HMa := hid hma
  clear hm2 hv2 hf2 hb2 hk2 hX2 ht2 hbe2 hl2 hg2 hext hTwo hw2 hlow HG2 hNa HN1 hs2 hs1
  have hbel : ∀ W : World, Ch6 M w2 W → Below w.heap.size w W := fun W hc => hc.below (fun m hm => by have := HLow.out m hm; omega) (by omega) HW2.out
  have HBel := hid hbel
  clear hbel
  cases hnd : ma.nd with
  | var n =>
    have hva : ndI M ra = .iface 74 (.pointer (some ⟨ma.blk, 0, none⟩)) := ndI_var hma hnd
    have HNd := hid hnd
    rw [hva] at HJ ⊢
    clear hma hnd hva
    go_wp2_with fail
    refine HJ.out.mono ?_
    rintro e w3 ⟨ok, rfl, hc3, hno, hyes⟩
    cases ok with
    | false =>
      have HNo := hid (hno rfl)
      have HC3 := hid hc3
      clear hno hyes hc3
      go_wp2
      go_ret2
      exact ⟨HBel.out _ HC3.out, M, L, ra, rb, HTwo.out, .inl ⟨rfl, HNo.out⟩⟩
    | true =>
      obtain ⟨into3, face, root, rk, hj3⟩ := hyes rfl
      have HJ3 := hid hj3
      have HC3 := hid hc3
      have HCl := hid (varClass_any hj3.bd hj3.fr HMa.out HNd.out)
      clear hno hyes hc3 hj3
      go_wp2_with fail
      refine HCl.out.mono ?_
      rintro e w4 ⟨into4, rfl, hrl, hb4, hf4, hc4⟩
      obtain ⟨mr, hmr⟩ : ∃ m, M[root ra]? = some m := ⟨_, List.getElem?_eq_getElem hrl⟩
      rw [clV_eq hmr]
      have hrr : root (root ra) = root ra := HJ3.out.ok.idem ra (by rw [List.length_map]; exact hra)
      have HCn := hid (uCount_any HA.out HOk.out HJ3.out.ok hMl (Nat.le_trans HC3.out.size hc4.size) hb4 hf4 (ci_none M root face hrl hrr) hmr)
      have HC4 := hid (HC3.out.trans hc4)
      clear hb4 hf4 hc4 hmr HCl
      go_wp2_with fail
      refine HCn.out.mono ?_
      rintro e w5 ⟨ok, into5, cnt5, rfl, hb5, hf5, hc5, hno, hyes⟩
      have HC5 := hid (HC4.out.trans hc5)
      cases ok with
      | false =>
        have HNo := hid (hno rfl)
        clear hno hyes hc5 hb5 hf5
        go_wp2
        go_ret2
        refine ⟨HBel.out _ HC5.out, M, L, ra, rb, HTwo.out, .inl ⟨rfl, fun V hV he => ?_⟩⟩
        obtain ⟨c, hc, hrc, hcir⟩ := HNo.out
        exact circle_none HOk.out HJ3.out.ok hcir (by rw [List.length_map]; exact hc) hrc hV (HJ3.out.jn.1 V hV he).1
      | true =>
        have HY := hid (hyes rfl)
        have HB5 := hid hb5
        have HF5 := hid hf5
        clear hno hyes hc5 hb5 hf5
        go_wp2
        go_ret2
        refine ⟨HBel.out _ HC5.out, M, L, ra, rb, HTwo.out, .inr ⟨rfl, _, into5, face, root, rk, cnt5, ⟨HMp.out.same (HC5.out.block _ hmb (fun m hm => by have := HLow.out m hm; omega)), HB5.out, HC5.out.size, HF5.out, HJ3.out.ok, HJ3.out.wait, HJ3.out.jn, HY.out⟩⟩⟩
  | app c xs =>
    have hva : ndI M ra = .iface 94 (.pointer (some ⟨ma.blk, 0, none⟩)) := ndI_app hma hnd
    have HNd := hid hnd
    rw [hva] at HJ ⊢
    clear hma hnd hva
    go_wp2_with fail
    refine HJ.out.mono ?_
    rintro e w3 ⟨ok, rfl, hc3, hno, hyes⟩
    cases ok with
    | false =>
      have HNo := hid (hno rfl)
      have HC3 := hid hc3
      clear hno hyes hc3
      go_wp2
      go_ret2
      exact ⟨HBel.out _ HC3.out, M, L, ra, rb, HTwo.out, .inl ⟨rfl, HNo.out⟩⟩
    | true =>
      obtain ⟨into3, face, root, rk, hj3⟩ := hyes rfl
      have HJ3 := hid hj3
      have HC3 := hid hc3
      have HCl := hid (appClass_any hj3.bd hj3.fr HMa.out HNd.out)
      clear hno hyes hc3 hj3
      go_wp2_with fail
      refine HCl.out.mono ?_
      rintro e w4 ⟨into4, rfl, hrl, hb4, hf4, hc4⟩
      obtain ⟨mr, hmr⟩ : ∃ m, M[root ra]? = some m := ⟨_, List.getElem?_eq_getElem hrl⟩
      rw [clV_eq hmr]
      have hrr : root (root ra) = root ra := HJ3.out.ok.idem ra (by rw [List.length_map]; exact hra)
      have HCn := hid (uCount_any HA.out HOk.out HJ3.out.ok hMl (Nat.le_trans HC3.out.size hc4.size) hb4 hf4 (ci_none M root face hrl hrr) hmr)
      have HC4 := hid (HC3.out.trans hc4)
      clear hb4 hf4 hc4 hmr HCl
      go_wp2_with fail
      refine HCn.out.mono ?_
      rintro e w5 ⟨ok, into5, cnt5, rfl, hb5, hf5, hc5, hno, hyes⟩
      have HC5 := hid (HC4.out.trans hc5)
      cases ok with
      | false =>
        have HNo := hid (hno rfl)
        clear hno hyes hc5 hb5 hf5
        go_wp2
        go_ret2
        refine ⟨HBel.out _ HC5.out, M, L, ra, rb, HTwo.out, .inl ⟨rfl, fun V hV he => ?_⟩⟩
        obtain ⟨c, hc, hrc, hcir⟩ := HNo.out
        exact circle_none HOk.out HJ3.out.ok hcir (by rw [List.length_map]; exact hc) hrc hV (HJ3.out.jn.1 V hV he).1
      | true =>
        have HY := hid (hyes rfl)
        have HB5 := hid hb5
        have HF5 := hid hf5
        clear hno hyes hc5 hb5 hf5
        go_wp2
        go_ret2
        refine ⟨HBel.out _ HC5.out, M, L, ra, rb, HTwo.out, .inr ⟨rfl, _, into5, face, root, rk, cnt5, ⟨HMp.out.same (HC5.out.block _ hmb (fun m hm => by have := HLow.out m hm; omega)), HB5.out, HC5.out.size, HF5.out, HJ3.out.ok, HJ3.out.wait, HJ3.out.jn, HY.out⟩⟩⟩

end Go.Proofs.YtelacmijkbgliaaDoor

/- checkTerms of package unify walked. -/
namespace Go.Proofs.YtelacmijkbgliaaDoor
open Go.RowKit Go.Maps Go.BigFrame

/-- What Check tells of two terms: of the first, or of the second. -/
def twoE (sig : List Sy) (a b : List Int) : Int := if termE sig a = 0 then termE sig b else termE sig a

set_option maxRecDepth 100000 in
set_option maxHeartbeats 800000 in
theorem checkTerms_any (sv v1 v2 : Value) (sig : List Sy) (a b : List Int) (w : World) (hs : Sg w sv sig) (h1 : Is w v1 a) (h2 : Is w v2 b) (hT : Tabs w) (hb1 : a.length * 8 ≤ 140737488351232) (hb2 : b.length * 8 ≤ 140737488351232) :
    Calls Tryd.prog 22 #[sv, v1, v2] w fun e w' => e = .returned (.int .i64 (twoE sig a b)) ∧ Below w.heap.size w w' := by
  have HC := hid (check_any sv v1 sig a w hs h1 hT hb1)
  have HS := hid hs
  have H2 := hid h2
  have HT := hid hT
  clear hs h1 h2 hT
  go_enter Tryd.func22, Tryd.ntmps22
  go_wp2_with fail
  refine HC.out.mono ?_
  rintro e w1 ⟨rfl, hbl⟩
  have HB := hid hbl
  clear hbl
  have HE : Hid (twoE sig a b = if termE sig a = 0 then termE sig b else termE sig a) := rfl
  by_cases h0 : termE sig a = 0
  · rw [h0]
    have HC2 := hid (check_any sv v2 sig b w1 (HS.out.kp (Kp.of_below HB.out)) (H2.out.kp (Kp.of_below HB.out)) (HT.out.below HB.out) hb2)
    go_wp2_with fail
    refine HC2.out.mono ?_
    rintro e w2 ⟨rfl, hbl⟩
    have HB2 := hid hbl
    clear hbl
    go_wp2
    go_ret
    exact ⟨by rw [HE.out, if_pos h0]; rfl, below_step HB.out HB2.out⟩
  · go_wp2
    go_ret
    exact ⟨by rw [HE.out, if_neg h0]; rfl, HB.out⟩

end Go.Proofs.YtelacmijkbgliaaDoor

/- Can of package unify walked. -/
namespace Go.Proofs.YtelacmijkbgliaaDoor
open Go.RowKit Go.Maps Go.BigFrame

theorem sol_of {sig : List Sy} {w w' : World} {a b : List Int} {M : List Nm} {L : List (Int × Value)} {ra rb T : Nat} {into : Nat → Option Nat} {face root rk : Nat → Nat} {cnt : Nat → Int} (h2 : Two6 sig a b M L ra rb) (h : Slvd sig w w' a b M L ra rb T into face root rk cnt) : Sol6 sig (M.map (·.nd)) root face ra rb := by
  have hra := tmC_lt h2.ta
  have hcl := closed_of h.wait
  have hone : root ra = root rb := h.jn.2.none
  have hrl := h.ok.lt ra hra
  rw [List.length_map] at hrl
  have h0 : ∃ t, TmC (M.map (·.nd)) root face (root ra) t := by
    rcases h.ci.go with hp | hp
    · rcases h.ci.st (root ra) hrl (h.ok.idem ra hra) with h9 | h9 | ⟨t, ht, _⟩
      · omega
      · omega
      · exact ⟨t, ht⟩
    · cases hp
  refine ⟨h.ok, hcl, fun i hi => ?_, hone, fun V hV he => (h.jn.1 V hV he).1⟩
  rw [List.length_map] at hi
  rcases h2.cov i hi with h9 | h9
  · exact bel_tm h2.ok h.ok hcl h9 h0
  · exact bel_tm h2.ok h.ok hcl h9 (by rw [← hone]; exact h0)

theorem two_right {sig : List Sy} {a b : List Int} (h : twoE sig a b = 0) : sigE sig = 0 ∧ rowE sig a = 0 ∧ rowE sig b = 0 := by
  unfold twoE at h
  split at h
  · rename_i h1
    unfold termE at h h1
    split at h1
    · rename_i h2
      rw [if_pos h2] at h
      exact ⟨h2, h1, h⟩
    · rename_i h2
      exact (h2 h1).elim
  · rename_i h1
    exact (h1 h).elim

open Classical in
set_option maxRecDepth 100000 in
set_option maxHeartbeats 1600000 in
theorem can_any (sv v1 v2 : Value) (sig : List Sy) (a b : List Int) (w : World) (hs : Sg w sv sig) (h1 : Is w v1 a) (h2 : Is w v2 b) (hT : Tabs w) (hl : a.length + b.length ≤ 4194304) :
    Calls Tryd.prog 14 #[sv, v1, v2] w fun e w' => e = .returned (.bool (decide (twoE sig a b = 0 ∧ Unif sig a b))) ∧ Below w.heap.size w w' := by
  have HC := hid (checkTerms_any sv v1 v2 sig a b w hs h1 h2 hT (by omega) (by omega))
  have HS := hid hs
  have H1 := hid h1
  have H2 := hid h2
  clear hs h1 h2 hT
  go_enter Tryd.func14, Tryd.ntmps14
  go_wp2_with fail
  refine HC.out.mono ?_
  rintro e w1 ⟨rfl, hb1⟩
  have HB1 := hid hb1
  clear hb1
  by_cases h0 : twoE sig a b = 0
  · obtain ⟨hsg, hra, hrb⟩ := two_right h0
    rw [h0]
    have hk := Kp.of_below HB1.out
    have ha := sigE_ok hsg
    have HSv := hid (solve_any sv v1 v2 sig a b w1 (HS.out.kp hk) (H1.out.kp hk) (H2.out.kp hk) ha hra hrb hl)
    have HA := hid ha
    clear hk ha hsg hra hrb
    go_wp2_with fail
    refine HSv.out.mono ?_
    rintro e w2 ⟨hb2, M, L, ra, rb, hTw, hor⟩
    have HB2 := hid hb2
    have HTw := hid hTw
    clear hb2 hTw
    rcases hor with ⟨rfl, hno⟩ | ⟨rfl, T, into, face, root, rk, cnt, hsl⟩
    · have HN : Hid (decide (twoE sig a b = 0 ∧ Unif sig a b) = false) := by
        show _ = _
        exact decide_eq_false (fun h => unif_no HA.out HTw.out.ok HTw.out.ta HTw.out.tb hno h.2)
      clear hno
      go_wp2
      go_ret
      exact ⟨by rw [HN.out]; rfl, below_step HB1.out HB2.out⟩
    · have HN : Hid (decide (twoE sig a b = 0 ∧ Unif sig a b) = true) := by
        show _ = _
        exact decide_eq_true ⟨h0, unif_iff_yes HA.out HTw.out.ok HTw.out.ta HTw.out.tb (sol_of HTw.out hsl)⟩
      clear hsl
      go_wp2
      go_ret
      exact ⟨by rw [HN.out]; rfl, below_step HB1.out HB2.out⟩
  · have HN : Hid (decide (twoE sig a b = 0 ∧ Unif sig a b) = false) := decide_eq_false (fun h => h0 h.1)
    go_wp2
    go_ret
    exact ⟨by rw [HN.out]; rfl, HB1.out⟩

end Go.Proofs.YtelacmijkbgliaaDoor

/- The document's solved and Can. -/
namespace Go.Proofs.YtelacmijkbgliaaDoor
open Go.RowKit Go.Maps Go.BigFrame

abbrev boardX (a b : List Int) : List Int := a ++ b
abbrev boardK (sig : List Sy) (a b : List Int) : List (List Nat) := kidR sig 0 0 a ++ kidR sig a.length 0 b

/-- A solved board in memory. -/
structure SdB (w0 w : World) (sig : List Sy) (a b : List Int) (b0 : Nat) (nv : Value) (cv kv lv : Value) (vs : List Value) (C N : List Nat) : Prop where
  brd : BdB w0 w b0 cv kv lv vs (boardX a b) (boardK sig a b) C
  sol : SolB sig (boardX a b) (boardK sig a b) C 0 a.length
  siz : SzB (boardX a b) (boardK sig a b) C N
  pos : ∀ (i c : Nat), C[i]? = some c → ∃ n, N[c]? = some n ∧ 0 < n
  num : OwI w w0.heap.size nv (natL N)

set_option maxRecDepth 100000 in
set_option maxHeartbeats 3200000 in
theorem solvedB_any (sv av bv : Value) (sig : List Sy) (a b : List Int) (w : World) (hs : Sg w sv sig) (ha : Is w av a) (hb : Is w bv b) (hA : ArOk sig) (hra : rowE sig a = 0) (hrb : rowE sig b = 0) (hl : a.length + b.length ≤ 1048576) :
    Calls Tryd.prog 27 #[sv, av, bv] w fun e w' => ∃ (k : Bool) (pv nv : Value), e = .returned (.tuple #[pv, nv, .bool k]) ∧ Below w.heap.size w w' ∧ (k = false → ¬ Unif sig a b) ∧ (k = true → Unif sig a b ∧ pv = .pointer (some ⟨w.heap.size, 0, none⟩) ∧ ∃ cv kv lv vs C N, SdB w w' sig a b w.heap.size nv cv kv lv vs C N) := by
  obtain ⟨ao, ac, rfl, hao, hac, _⟩ := Row.flat ha
  unfold maxLen at hac
  obtain ⟨hB, hta, htb⟩ := board_ok hA hra hrb
  have HL := hid (laidB_any sv _ bv sig a b w hs ha hb hA hra hrb hl)
  have HA := hid hA
  have HBo := hid hB
  have HTa := hid hta
  have HTb := hid htb
  obtain ⟨X, hX⟩ : ∃ X, X = a ++ b := ⟨_, rfl⟩
  obtain ⟨K, hK⟩ : ∃ K, K = kidR sig 0 0 a ++ kidR sig a.length 0 b := ⟨_, rfl⟩
  rw [← hX, ← hK] at HL HBo HTa HTb
  have h0l : 0 < X.length := tmB_lt HTa.out
  have hal : a.length < X.length := tmB_lt HTb.out
  have hxl : X.length ≤ 1048576 := by rw [hX, List.length_append]; exact hl
  have HXe := hid hX
  have HKe := hid hK
  clear hs ha hb hA hra hrb hB hta htb hX hK
  obtain ⟨d, hd⟩ : ∃ d, d = w.heap.size := ⟨_, rfl⟩
  rw [← hd] at HL
  rw [← hd]
  have HD := hid hd
  clear hd
  go_enter Tryd.func27, Tryd.ntmps27
  go_wp2_with fail
  refine HL.out.mono ?_
  rintro e w1 ⟨cv, kv, lv, vs, rfl, hbd⟩
  have HB1 := hid hbd
  clear hbd HL
  obtain ⟨c0, hc0⟩ : ∃ c, (clsR X)[0]? = some c := ⟨_, clsR_at h0l⟩
  obtain ⟨c1, hc1⟩ : ∃ c, (clsR X)[a.length]? = some c := ⟨_, clsR_at hal⟩
  have hcl0 := ((clB_start X).id 0 c0 hc0).1
  have hcl1 := ((clB_start X).id a.length c1 hc1).1
  have hC0 : (clsR X).length = X.length := by simp [clsR]
  obtain ⟨j1, j2, j3, _⟩ := joinD_ok (sig := sig) (K := K) (clB_start X) (jnB_start sig X K 0 a.length) hc0 hc1 (fun V _ he => he)
  have HJ : Hid (ClK sig X K (joinD (clsR X) c0 c1) 0 a.length) := ⟨j1, j2, j3⟩
  have HJn := hid (joinB_any HB1.out hc0 hc1 (by omega) (by omega) (by omega))
  clear hc0 hc1 hcl0 hcl1 hC0 j1 j2 j3
  go_wp2_with fail
  refine HJn.out.mono ?_
  rintro e w2 ⟨rfl, hbd⟩
  have HB2 := hid hbd
  clear hbd HJn HB1
  go_wp2_with fail
  refine (closeB_any HBo.out HB2.out HJ.out (by omega)).mono ?_
  rintro e w3 ⟨ok, C, rfl, hbd, hok, hno⟩
  have HB3 := hid hbd
  have BW3 : Hid (Below w.heap.size w w3) := hbd.bel
  cases ok
  · have HN : Hid (¬ Unif sig a b) := unifB_no HA.out HBo.out HTa.out HTb.out (hno rfl)
    clear hbd hok hno
    go_wp2
    go_ret3
    exact ⟨false, _, _, rfl, by rw [HD.out]; exact BW3.out, fun _ => HN.out, fun h => by (cases h)⟩
  · obtain ⟨hk, hclo⟩ := hok rfl
    have HCk := hid hk
    have HClo := hid hclo
    have HSz := hid (sizesB_any HBo.out HB3.out hk.cl hxl)
    have hle := hbd.bel.size
    clear hbd hok hno hk hclo HB2 HJ
    go_wp2_with fail
    refine HSz.out.mono ?_
    rintro e w4 ⟨N, rfl, ho, hb4, hsz, hw⟩
    have HB4 := hid (HB3.out.later hb4)
    have HNm : Hid (OwI w4 w.heap.size (.slice (some ⟨w3.heap.size, 0, none⟩) X.length X.length) (natL N)) := ho.mono hle
    have HSzB := hid hsz
    have HWt := hid hw
    obtain ⟨g4, hg4⟩ : ∃ g, g = w3.heap.size := ⟨_, rfl⟩
    rw [← hg4] at HNm ⊢
    clear ho hb4 hsz hw HSz HB3 hle hg4
    obtain ⟨⟨oX, cX, rfl⟩, _, oC, cC, rfl⟩ := HB4.out.shape
    have hCl : C.length = X.length := HCk.out.cl.len
    rw [hCl] at HB4
    clear hCl
    obtain ⟨x0, x1, x2⟩ := HB4.out.cells
    go_wp2
    go_loopw [11] (fun iv wr => ∃ i : Nat, i ≤ X.length ∧ iv = .int .i64 i ∧ wr = w4 ∧ ∀ j, j < i → ∀ c, C[j]? = some c → ∃ n, N[c]? = some n ∧ 0 < n) (fun iv _ => X.length - (intOf iv).toNat)
    case atStart => exact ⟨0, Nat.zero_le _, rfl, rfl, fun j hj => by omega⟩
    case round =>
      obtain ⟨i, hi, rfl, hwr, hps⟩ := hrel
      subst hwr
      have HPs := hid hps
      clear hps
      by_cases hil : i < X.length
      · obtain ⟨c, hc⟩ : ∃ c, C[i]? = some c := ⟨_, List.getElem?_eq_getElem (by rw [HCk.out.cl.len]; exact hil)⟩
        have hcid := HCk.out.cl.id i c hc
        have hcl : c < X.length := by omega
        obtain ⟨n, hn⟩ : ∃ n, N[c]? = some n := ⟨_, List.getElem?_eq_getElem (by rw [HSzB.out.1]; exact hcl)⟩
        obtain ⟨gC, qC, e2, y2, _⟩ := HB4.out.atC hc
        simp only [Value.slice.injEq] at e2
        obtain ⟨rfl, hqc, rfl⟩ := e2
        obtain ⟨y3, _⟩ := OwI.at HNm.out (natL_get hn)
        have HC := hid hc
        have HNc := hid hn
        have HCi := hid hcid.2
        clear hc hn hcid hqc
        by_cases hn0 : n = 0
        · have hq : ((n : Int) == 0) = true := by simp [hn0]
          have hq2 : (n == 0) = true := by simp [hn0]
          have HNo : Hid (¬ Unif sig a b) := unifB_no HA.out HBo.out HTa.out HTb.out (noB_end HBo.out HCk.out.cl HCk.out.jn HWt.out HCi.out (by rw [HNc.out, hn0]))
          have HBw : Hid (Below w.heap.size w wr) := HB4.out.bel
          clear hn0
          go_wp2
          go_ret3
          exact ⟨false, _, _, rfl, by rw [HD.out]; exact HBw.out, fun _ => HNo.out, fun h => by (cases h)⟩
        · have hq : ((n : Int) == 0) = false := by simpa using hn0
          have hq2 : (n == 0) = false := by simpa using hn0
          have HN : Hid (∀ j, j < i + 1 → ∀ c, C[j]? = some c → ∃ n, N[c]? = some n ∧ 0 < n) := fun j hj c' hc' => by
            by_cases hji : j < i
            · exact HPs.out j hji c' hc'
            · obtain rfl : j = i := by omega
              rw [HC.out] at hc'
              cases hc'
              exact ⟨n, HNc.out, by omega⟩
          go_wp2
          go_roundw
          case rel => exact ⟨i + 1, hil, by go_num, by trivial, HN.out⟩
          case measure => simp only [intOf]; omega
      · have HPa : Hid (∀ (j c : Nat), C[j]? = some c → ∃ n, N[c]? = some n ∧ 0 < n) := fun j c hc => HPs.out j (by have := (List.getElem?_eq_some_iff.1 hc).1; have := HCk.out.cl.len; omega) c hc
        have HSol : Hid (SolB sig X K C 0 a.length) := solB_of HCk.out.cl HClo.out HCk.out.jn HCk.out.one HSzB.out HPa.out
        have HU : Hid (Unif sig a b) := unifB_yes HA.out HBo.out HSol.out HTa.out HTb.out
        have HBw : Hid (Below w.heap.size w wr) := HB4.out.bel
        have HFin : Hid (SdB w wr sig a b d (.slice (some ⟨g4, 0, none⟩) X.length X.length) (.slice oX X.length cX) kv (.slice oC X.length cC) vs C N) := by
          have e1 := HXe.out
          have e2 := HKe.out
          have q1 := HB4.out
          have q2 := HSol.out
          have q3 := HSzB.out
          rw [e1, e2] at q1 q2 q3
          rw [e1]
          exact ⟨q1, q2, q3, HPa.out, by rw [← e1]; exact HNm.out⟩
        go_wp2
        go_ret3
        exact ⟨true, _, _, rfl, by rw [HD.out]; exact HBw.out, fun h => by (cases h), fun _ => ⟨HU.out, rfl, _, _, _, _, _, _, HFin.out⟩⟩

set_option maxRecDepth 100000 in
set_option maxHeartbeats 800000 in
theorem refRight6_any (sv v1 v2 : Value) (sig : List Sy) (a b : List Int) (w : World) (hs : Sg w sv sig) (h1 : Is w v1 a) (h2 : Is w v2 b) (hb1 : a.length * 8 ≤ 140737488351232) (hb2 : b.length * 8 ≤ 140737488351232) :
    Calls Tryd.prog 25 #[sv, v1, v2] w fun e w' => e = .returned (.int .i64 (twoE sig a b)) ∧ Below w.heap.size w w' := by
  have HC := hid (refCheck_any sv v1 sig a w hs h1 hb1)
  have HS := hid hs
  have H2 := hid h2
  clear hs h1 h2
  go_enter Tryd.func25, Tryd.ntmps25
  go_wp2_with fail
  refine HC.out.mono ?_
  rintro e w1 ⟨rfl, hbl⟩
  have HB := hid hbl
  clear hbl
  have HE : Hid (twoE sig a b = if termE sig a = 0 then termE sig b else termE sig a) := rfl
  by_cases h0 : termE sig a = 0
  · rw [h0]
    have HC2 := hid (refCheck_any sv v2 sig b w1 (HS.out.kp (Kp.of_below HB.out)) (H2.out.kp (Kp.of_below HB.out)) hb2)
    go_wp2_with fail
    refine HC2.out.mono ?_
    rintro e w2 ⟨rfl, hbl⟩
    have HB2 := hid hbl
    clear hbl
    go_wp2
    go_ret
    exact ⟨by rw [HE.out, if_pos h0]; rfl, below_step HB.out HB2.out⟩
  · go_wp2
    go_ret
    exact ⟨by rw [HE.out, if_neg h0]; rfl, HB.out⟩

end Go.Proofs.YtelacmijkbgliaaDoor

/- The binds of the classes are most general: plain. -/
namespace Go.Proofs.YtelacmijkbgliaaDoor

theorem laid_congr6 {f g : Int → Option (List Int)} {t : List Int} (h : ∀ c ∈ t, c < 0 → piece f c = piece g c) : laidL f t = laidL g t := by
  unfold laidL
  induction t with
  | nil => rfl
  | cons c t ih =>
    rw [List.flatMap_cons, List.flatMap_cons, ih (fun d hd => h d (List.mem_cons_of_mem _ hd))]
    congr 1
    by_cases hc : c < 0
    · exact h c (List.mem_cons_self ..) hc
    · unfold piece
      rw [if_neg hc, if_neg hc]

/-- The variables of what a class becomes are nodes. -/
theorem tmC_vars {sig : List Sy} {L : List Nd} (hL : NdOk sig L) {root face : Nat → Nat} {i : Nat} {t : List Int} (h : TmC L root face i t) : ∀ c ∈ t, c < 0 → ∃ j : Nat, L[j]? = some (Nd.var (-1 - c)) := by
  induction h with
  | var h =>
    rename_i k n
    intro c hc _
    rw [List.mem_singleton] at hc
    subst hc
    exact ⟨_, by rw [h, show -1 - (-1 - n) = n by omega]⟩
  | app h hl _ ih =>
    rename_i k s xs ts
    intro c hc h0
    rcases List.mem_cons.1 hc with rfl | hc
    · exact ((hL.sym _ _ _ h).1 h0).elim
    · obtain ⟨u, hu, hcu⟩ := List.mem_flatten.1 hc
      obtain ⟨m, hm⟩ := List.getElem?_of_mem hu
      have hml := (List.getElem?_eq_some_iff.1 hm).1
      exact ih m _ u (List.getElem?_eq_getElem (by omega)) hm c hcu h0

/-- Whatever makes the two terms one goes through the binds of the classes. -/
theorem unif_through {sig : List Sy} (ha : ArOk sig) {L : List Nd} (hL : NdOk sig L) {a b : List Int} {ra rb : Nat} {root face : Nat → Nat} (hta : TmC L id id ra a) (htb : TmC L id id rb b) (h : Sol6 sig L root face ra rb) {f : Int → Option (List Int)} (hf : ∀ n u, f n = some u → rowE sig u = 0) (he : laidL f a = laidL f b) (n : Int) :
    laidL f ((gV L (vC L root face) n).getD [-1 - n]) = laidL f [-1 - n] := by
  have hcl : Closed L id id := closed_of (wait_start L [])
  have hT : ∀ i, i < L.length → ∃ t, TmC L id id (id i) t := fun i hi => tmC_all hL (i + 1) i (by omega) hi
  have hV0 := vC_val ha hL (cl_start hL) hcl hT
  have hV : Val sig L (fun i => laidL f (vC L id id i)) := fun i hi => ⟨row_laid ha hf (hV0 i hi).1, fun c xs hx => by
    show laidL f (vC L id id i) = _
    rw [(hV0 i hi).2 c xs hx, laid_sym (hL.sym i c xs hx).1, laid_flat, List.map_map]
    rfl⟩
  have hs : Slv L.length root (fun i => laidL f (vC L id id i)) := h.jn _ hV (by
    show laidL f (vC L id id ra) = laidL f (vC L id id rb)
    rw [vC_eq (root := id) (face := id) (i := ra) (by exact hta), vC_eq (root := id) (face := id) (i := rb) (by exact htb)]
    exact he)
  -- a variable's node
  have hvar : ∀ (i : Nat) (m : Int), L[i]? = some (Nd.var m) → laidL f (vC L id id i) = laidL f [-1 - m] := fun i m hi => by
    rw [vC_eq (root := id) (face := id) (i := i) (t := [-1 - m]) (.var hi)]
  by_cases hx : ∃ i : Nat, L[i]? = some (Nd.var n)
  · obtain ⟨i, hi⟩ := hx
    have hil := (List.getElem?_eq_some_iff.1 hi).1
    rw [gV_eq hL hi, Option.getD_some]
    obtain ⟨t, ht⟩ := h.tm i hil
    have h0 : laidL f (vC L id id i) = laidL f (vC L id id (root i)) := hs i hil
    rw [vC_eq ht, ← hvar i n hi, h0]
    have h1 := slv_laid hL h.ok hV hs ht (h.ok.lt i hil) (h.ok.idem i hil)
    rw [h1]
    refine laid_congr6 (fun c hc h0 => ?_)
    obtain ⟨j, hj⟩ := tmC_vars hL ht c hc h0
    unfold piece
    rw [if_pos h0, if_pos h0, gV_eq hL hj, Option.getD_some, hvar j _ hj]
    unfold laidL
    rw [show -1 - (-1 - c) = c by omega, List.flatMap_cons, List.flatMap_nil, List.append_nil]
    unfold piece
    rw [if_pos h0]
  · have : gV L (vC L root face) n = none := by
      unfold gV
      rw [dif_neg hx]
    rw [this, Option.getD_none]

theorem unif_general {sig : List Sy} (ha : ArOk sig) {L : List Nd} (hL : NdOk sig L) {a b : List Int} {ra rb : Nat} {root face : Nat → Nat} (hta : TmC L id id ra a) (htb : TmC L id id rb b) (h : Sol6 sig L root face ra rb) {f : Int → Option (List Int)} (hf : ∀ n u, f n = some u → rowE sig u = 0) (he : laidL f a = laidL f b) : ∀ t, laidL f (laidL (gV L (vC L root face)) t) = laidL f t
  | [] => rfl
  | c :: t => by
    have ih := unif_general ha hL hta htb h hf he t
    have e : ∀ (g : Int → Option (List Int)) (c : Int) (t : List Int), laidL g (c :: t) = piece g c ++ laidL g t := fun g c t => by unfold laidL; rw [List.flatMap_cons]
    rw [e, laidL_app, ih, e f c t]
    congr 1
    by_cases hc : c < 0
    · have h1 := unif_through ha hL hta htb h hf he (-1 - c)
      rw [show -1 - (-1 - c) = c by omega] at h1
      have h2 : laidL f [c] = piece f c := by rw [e]; unfold laidL; simp
      rw [← h2, ← h1]
      unfold piece
      rw [if_pos hc]
    · unfold piece
      rw [if_neg hc, if_neg hc]
      unfold laidL piece
      simp [hc]

end Go.Proofs.YtelacmijkbgliaaDoor
