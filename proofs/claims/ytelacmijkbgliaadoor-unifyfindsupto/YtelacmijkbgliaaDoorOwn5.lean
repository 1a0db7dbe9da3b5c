/- Texts of the proof, one behind the other. -/
import Derived.Test.YtelacmijkbgliaaDoorOwn4
import Derived.Test.YtelacmijkbgliaaDoorOwn1
import Derived.BigRegion
/- take of package unify walked. -/
namespace Go.Proofs.YtelacmijkbgliaaDoor
open Go.RowKit Go.Maps Go.BigFrame

theorem ndI_form {M : List Nm} {i : Nat} (h : i < M.length) : ∃ ty b, ndI M i = .iface ty (.pointer (some ⟨b, 0, none⟩)) := by
  have e : M[i]? = some M[i] := List.getElem?_eq_getElem h
  rw [ndI_eq e]
  unfold ndV
  split
  · exact ⟨_, _, rfl⟩
  · exact ⟨_, _, rfl⟩

theorem if_self7 {f : Nat → Option Nat} {j d : Nat} {o : Option Nat} : (fun i => if i = j then (if j = d then o else f j) else if i = d then o else f i) = fun i => if i = d then o else f i := by
  funext i
  by_cases e : i = j
  · rw [if_pos e, e]
  · rw [if_neg e]

theorem faceN_lt {M : List Nm} {a b : Nat} (ha : a < M.length) (hb : b < M.length) : faceN (M.map Nm.nd) a b < M.length := by
  rcases uni_face (M.map Nm.nd) a b with h | h <;> rw [h] <;> assumption

set_option maxRecDepth 100000 in
set_option maxHeartbeats 3200000 in
theorem take_any {w : World} {B T : Nat} {M : List Nm} {into : Nat → Option Nat} {face : Nat → Nat} {cnt : Nat → Int} (hb : Bd6 w B T M into face cnt) {c d : Nat} {mc md : Nm} (hmc : M[c]? = some mc) (hmd : M[d]? = some md) (_hne : c ≠ d) (hfc : face c < M.length) (hfd : face d < M.length) :
    Calls Tryd.prog 63 #[.pointer (some ⟨mc.cls, 0, none⟩), .pointer (some ⟨md.cls, 0, none⟩)] w fun e w' => e = .returned (.tuple #[]) ∧ ∃ c' d', ((c' = c ∧ d' = d) ∨ (c' = d ∧ d' = c)) ∧ Bd6 w' B T M (fun i => if i = d' then some c' else into i) (fun i => if i = c' then faceN (M.map Nm.nd) (face c') (face d') else face i) cnt ∧ Ch6 M w w' := by
  have HB := hid hb
  have HMc := hid hmc
  have HMd := hid hmd
  obtain ⟨kc, _, _, xc1, _, _⟩ := hb.clc hmc
  obtain ⟨kd, _, _, xd1, _, _⟩ := hb.clc hmd
  clear hb hmc hmd
  by_cases hlt : kc < kd
  · have hdl : decide (kc < kd) = true := decide_eq_true hlt
    clear hlt
    go_enter Tryd.func63, Tryd.ntmps63
    go_wp2
    go_quiet (fail)
    have J1 := hid (drawn_below (w := w) (n := nq) rfl)
    obtain ⟨w1, hw1⟩ : ∃ X, X = w.drewN nq := ⟨_, rfl⟩
    rw [← hw1] at J1
    go_upto_region 2 with fail
    rw [← hw1]
    clear hw1
    have hb1 := HB.out.later J1.out
    obtain ⟨kD, hkD, _, _, _, _⟩ := hb1.clc HMc.out
    have z0 : w1.cell? ⟨mc.cls, 0, none⟩ = some (inV M (into c)) := cell_of_row _ _ _ _ _ _ hkD
    have f0 : w1.frozen? ⟨mc.cls, 0, none⟩ = false := frozen_of_row _ _ _ _ _ hkD
    obtain ⟨W2, hW2⟩ : ∃ X, X = w1.setCell ⟨mc.cls, 0, none⟩ (.pointer (some ⟨md.cls, 0, none⟩)) := ⟨_, rfl⟩
    obtain ⟨hb2, hc2⟩ := hb1.put HMc.out (o := some d) (f := face c) (n := cnt c) (w' := W2) (by rw [hW2]; exact set_grown _ _ _ _) ⟨kD, by rw [hW2, inV_some HMd.out]; exact heap_setCell_same _ _ _ _ _ _ hkD⟩
    rw [if_self6, if_self6] at hb2
    have HC2 := hid ((Ch6.of_below J1.out).trans hc2)
    obtain ⟨kC2, hkC2, _, s1, _, _⟩ := hb2.clc HMd.out
    obtain ⟨kD2, hkD2, _, t1, _, _⟩ := hb2.clc HMc.out
    have f1 : W2.frozen? ⟨md.cls, 1, none⟩ = false := frozen_of_row _ _ _ _ _ hkC2
    have HB2 := hid hb2
    have HK2 := hid hkC2
    unfold inV at z0
    clear hb1 hkD hb2 hc2 hkC2 hkD2 xc1 xd1 hdl
    go_upto_region 3 with fail
    rw [← hW2]
    clear hW2 z0 f0
    go_region
    obtain ⟨W3, hW3⟩ : ∃ X, X = (W2.setCell ⟨md.cls, 1, none⟩ (.int .i64 (wrap64 (kC2 + kD2)))).drew := ⟨_, rfl⟩
    rw [← hW3]
    have hk3 : W3.heap[md.cls]? = some (.cells #[inV M (if d = c then some d else into d), .int .i64 (wrap64 (kC2 + kD2)), ndI M (face d), .int .i64 (cnt d)] 76) := by
      rw [hW3]
      show (World.setCell _ _ _).heap[md.cls]? = _
      exact heap_setCell_same _ _ _ _ _ _ HK2.out
    obtain ⟨hb3, hc3⟩ := HB2.out.put HMd.out (o := if d = c then some d else into d) (f := face d) (n := cnt d) (w' := W3) (by rw [hW3]; exact grown_trans (set_grown _ _ _ _) (grown_of_below (drawn_below1 _) _)) ⟨_, hk3⟩
    rw [if_self6, if_self6, if_self7] at hb3
    have HB3 := hid hb3
    have HC3 := hid (HC2.out.trans hc3)
    obtain ⟨kC3, hkC3, _, _, s2, _⟩ := hb3.clc HMd.out
    obtain ⟨kD3, hkD3, _, _, t2, _⟩ := hb3.clc HMc.out
    have HK3 := hid hkC3
    obtain ⟨ty, bF, hF⟩ := ndI_form (faceN_lt (M := M) hfd hfc)
    have HFo := hid (faceOf_any (hb3.later (drawn_below1 W3)) hfd hfc)
    rw [hF] at HFo
    have HFe := hid hF
    have f2 : W3.frozen? ⟨md.cls, 2, none⟩ = false := frozen_of_row _ _ _ _ _ hkC3
    have HDone : Hid (∀ k : Nat, Bd6 ((W3.drewN k).setCell ⟨md.cls, 2, none⟩ (.iface ty (.pointer (some ⟨bF, 0, none⟩)))) B T M (fun i => if i = c then some d else into i) (fun i => if i = d then faceN (M.map Nm.nd) (face d) (face c) else face i) cnt ∧ Ch6 M w ((W3.drewN k).setCell ⟨md.cls, 2, none⟩ (.iface ty (.pointer (some ⟨bF, 0, none⟩))))) := fun k => by
      have hd4 : Below W3.heap.size W3 (W3.drewN k) := drawn_below rfl
      have hb4 := HB3.out.later hd4
      have hk4 : (W3.drewN k).heap[md.cls]? = some (.cells #[inV M (if d = c then some d else into d), .int .i64 kC3, ndI M (face d), .int .i64 (cnt d)] 76) := (hd4.block _ (Array.getElem?_eq_some_iff.1 HK3.out).1).trans HK3.out
      obtain ⟨hb5, hc5⟩ := hb4.put HMd.out (o := if d = c then some d else into d) (f := faceN (M.map Nm.nd) (face d) (face c)) (n := cnt d) (w' := (W3.drewN k).setCell ⟨md.cls, 2, none⟩ (.iface ty (.pointer (some ⟨bF, 0, none⟩)))) (set_grown _ _ _ _) ⟨kC3, by rw [hF]; exact heap_setCell_same _ _ _ _ _ _ hk4⟩
      rw [if_self6, if_self7] at hb5
      exact ⟨hb5, (HC3.out.trans (Ch6.of_below hd4)).trans hc5⟩
    clear hW3 hk3 hb3 hc3 hkC3 hkD3 s1 t1 f1 hF
    go_upto_region 4 with fail
    go_region_with (first
      | (refine HFo.out.mono ?_; rintro e w4 ⟨rfl, n4, hw4⟩; subst hw4))
    all_goals (
      go_wp2
      go_end0
      exact ⟨rfl, d, c, .inr ⟨rfl, rfl⟩, (HDone.out _).1, (HDone.out _).2⟩)
  · have hdl : decide (kc < kd) = false := decide_eq_false hlt
    clear hlt
    go_enter Tryd.func63, Tryd.ntmps63
    go_wp2
    go_quiet (fail)
    have J1 := hid (drawn_below (w := w) (n := nq) rfl)
    obtain ⟨w1, hw1⟩ : ∃ X, X = w.drewN nq := ⟨_, rfl⟩
    rw [← hw1] at J1
    go_upto_region 2 with fail
    rw [← hw1]
    clear hw1
    have hb1 := HB.out.later J1.out
    obtain ⟨kD, hkD, _, _, _, _⟩ := hb1.clc HMd.out
    have z0 : w1.cell? ⟨md.cls, 0, none⟩ = some (inV M (into d)) := cell_of_row _ _ _ _ _ _ hkD
    have f0 : w1.frozen? ⟨md.cls, 0, none⟩ = false := frozen_of_row _ _ _ _ _ hkD
    obtain ⟨W2, hW2⟩ : ∃ X, X = w1.setCell ⟨md.cls, 0, none⟩ (.pointer (some ⟨mc.cls, 0, none⟩)) := ⟨_, rfl⟩
    obtain ⟨hb2, hc2⟩ := hb1.put HMd.out (o := some c) (f := face d) (n := cnt d) (w' := W2) (by rw [hW2]; exact set_grown _ _ _ _) ⟨kD, by rw [hW2, inV_some HMc.out]; exact heap_setCell_same _ _ _ _ _ _ hkD⟩
    rw [if_self6, if_self6] at hb2
    have HC2 := hid ((Ch6.of_below J1.out).trans hc2)
    obtain ⟨kC2, hkC2, _, s1, _, _⟩ := hb2.clc HMc.out
    obtain ⟨kD2, hkD2, _, t1, _, _⟩ := hb2.clc HMd.out
    have f1 : W2.frozen? ⟨mc.cls, 1, none⟩ = false := frozen_of_row _ _ _ _ _ hkC2
    have HB2 := hid hb2
    have HK2 := hid hkC2
    unfold inV at z0
    clear hb1 hkD hb2 hc2 hkC2 hkD2 xc1 xd1 hdl
    go_upto_region 3 with fail
    rw [← hW2]
    clear hW2 z0 f0
    go_region
    obtain ⟨W3, hW3⟩ : ∃ X, X = (W2.setCell ⟨mc.cls, 1, none⟩ (.int .i64 (wrap64 (kC2 + kD2)))).drew := ⟨_, rfl⟩
    rw [← hW3]
    have hk3 : W3.heap[mc.cls]? = some (.cells #[inV M (if c = d then some c else into c), .int .i64 (wrap64 (kC2 + kD2)), ndI M (face c), .int .i64 (cnt c)] 76) := by
      rw [hW3]
      show (World.setCell _ _ _).heap[mc.cls]? = _
      exact heap_setCell_same _ _ _ _ _ _ HK2.out
    obtain ⟨hb3, hc3⟩ := HB2.out.put HMc.out (o := if c = d then some c else into c) (f := face c) (n := cnt c) (w' := W3) (by rw [hW3]; exact grown_trans (set_grown _ _ _ _) (grown_of_below (drawn_below1 _) _)) ⟨_, hk3⟩
    rw [if_self6, if_self6, if_self7] at hb3
    have HB3 := hid hb3
    have HC3 := hid (HC2.out.trans hc3)
    obtain ⟨kC3, hkC3, _, _, s2, _⟩ := hb3.clc HMc.out
    obtain ⟨kD3, hkD3, _, _, t2, _⟩ := hb3.clc HMd.out
    have HK3 := hid hkC3
    obtain ⟨ty, bF, hF⟩ := ndI_form (faceN_lt (M := M) hfc hfd)
    have HFo := hid (faceOf_any (hb3.later (drawn_below1 W3)) hfc hfd)
    rw [hF] at HFo
    have HFe := hid hF
    have f2 : W3.frozen? ⟨mc.cls, 2, none⟩ = false := frozen_of_row _ _ _ _ _ hkC3
    have HDone : Hid (∀ k : Nat, Bd6 ((W3.drewN k).setCell ⟨mc.cls, 2, none⟩ (.iface ty (.pointer (some ⟨bF, 0, none⟩)))) B T M (fun i => if i = d then some c else into i) (fun i => if i = c then faceN (M.map Nm.nd) (face c) (face d) else face i) cnt ∧ Ch6 M w ((W3.drewN k).setCell ⟨mc.cls, 2, none⟩ (.iface ty (.pointer (some ⟨bF, 0, none⟩))))) := fun k => by
      have hd4 : Below W3.heap.size W3 (W3.drewN k) := drawn_below rfl
      have hb4 := HB3.out.later hd4
      have hk4 : (W3.drewN k).heap[mc.cls]? = some (.cells #[inV M (if c = d then some c else into c), .int .i64 kC3, ndI M (face c), .int .i64 (cnt c)] 76) := (hd4.block _ (Array.getElem?_eq_some_iff.1 HK3.out).1).trans HK3.out
      obtain ⟨hb5, hc5⟩ := hb4.put HMc.out (o := if c = d then some c else into c) (f := faceN (M.map Nm.nd) (face c) (face d)) (n := cnt c) (w' := (W3.drewN k).setCell ⟨mc.cls, 2, none⟩ (.iface ty (.pointer (some ⟨bF, 0, none⟩)))) (set_grown _ _ _ _) ⟨kC3, by rw [hF]; exact heap_setCell_same _ _ _ _ _ _ hk4⟩
      rw [if_self6, if_self7] at hb5
      exact ⟨hb5, (HC3.out.trans (Ch6.of_below hd4)).trans hc5⟩
    clear hW3 hk3 hb3 hc3 hkC3 hkD3 s1 t1 f1 hF
    go_upto_region 4 with fail
    go_region_with (first
      | (refine HFo.out.mono ?_; rintro e w4 ⟨rfl, n4, hw4⟩; subst hw4))
    all_goals (
      go_wp2
      go_end0
      exact ⟨rfl, c, d, .inl ⟨rfl, rfl⟩, (HDone.out _).1, (HDone.out _).2⟩)

end Go.Proofs.YtelacmijkbgliaaDoor

/- parts of package unify walked. -/
namespace Go.Proofs.YtelacmijkbgliaaDoor
open Go.RowKit Go.Maps Go.BigFrame

/-- The classes of a node's arguments. -/
def ptsN (M : List Nm) (root : Nat → Nat) (f : Nat) : List Nat := match (M[f]?).map Nm.nd with | some (.app _ xs) => xs.map root | _ => []

set_option maxRecDepth 100000 in
set_option maxHeartbeats 3200000 in
theorem parts_any {w : World} {B T : Nat} {M : List Nm} {into : Nat → Option Nat} {face : Nat → Nat} {cnt : Nat → Int} {root rk : Nat → Nat} (hb : Bd6 w B T M into face cnt) (hf : Fr6 M.length into root rk) (hlow : T ≤ w.heap.size) (hwf : ∀ (i : Nat) (m : Nm) (c : Int) (xs : List Nat), M[i]? = some m → m.nd = .app c xs → (∀ x ∈ xs, x < M.length) ∧ xs.length ≤ 1000)
    {i : Nat} {mi : Nm} (hmi : M[i]? = some mi) (hfl : face i < M.length) :
    Calls Tryd.prog 65 #[.pointer (some ⟨mi.cls, 0, none⟩)] w fun e w' => ∃ v' into', e = .returned v' ∧ OwC6 w' w.heap.size M v' (ptsN M root (face i)) ∧ Bd6 w' B T M into' face cnt ∧ Fr6 M.length into' root rk ∧ Ch6 M w w' := by
  obtain ⟨mf, hmf⟩ : ∃ m, M[face i]? = some m := ⟨_, List.getElem?_eq_getElem hfl⟩
  obtain ⟨k9, _, _, _, x2, _⟩ := hb.clc hmi
  have HB := hid hb
  have HF := hid hf
  have HLo := hid hlow
  have HWf := hid hwf
  have HMf := hid hmf
  have HIs := hid (uIsVar_any w hfl)
  obtain ⟨P, hP⟩ : ∃ P, P = ptsN M root (face i) := ⟨_, rfl⟩
  rw [← hP]
  unfold ptsN at hP
  rw [hmf] at hP
  simp only [Option.map_some] at hP
  unfold isVarN at HIs
  rw [hmf] at HIs
  simp only [Option.map_some] at HIs
  cases hn : mf.nd with
  | var n =>
    rw [hn] at hP HIs
    simp only at hP HIs
    rw [ndI_var hmf hn] at x2 HIs
    subst hP
    clear hb hf hlow hwf hmi hfl hmf hn
    go_enter Tryd.func65, Tryd.ntmps65
    go_wp2_with fail
    refine HIs.out.mono ?_
    rintro e w1 ⟨rfl, hw1⟩
    have hw8 := hw1.symm
    subst hw8
    clear hw1
    go_wp2
    go_ret
    exact ⟨_, into, rfl, ⟨rfl, .inl ⟨rfl, rfl⟩⟩, HB.out, HF.out, Ch6.refl _ _⟩
  | app c xs =>
    rw [hn] at hP HIs
    simp only at hP HIs
    rw [ndI_app hmf hn] at x2 HIs
    obtain ⟨ao, cap, ⟨_, y1, _⟩, hcap1, hcap2, hargs⟩ := hb.app hmf hn
    unfold maxLen at hcap2
    obtain ⟨hx1, hx2⟩ := hwf _ _ _ _ hmf hn
    have HX1 := hid hx1
    have HArg := hid hargs
    have HPe := hid hP
    have ha := as_uapp (.pointer (some ⟨mf.blk, 0, none⟩))
    clear hb hf hlow hwf hmi hfl hmf hn hargs hP hx1
    go_enter Tryd.func65, Tryd.ntmps65
    go_wp2_with fail
    refine HIs.out.mono ?_
    rintro e w1 ⟨rfl, hw1⟩
    have hw8 := hw1.symm
    subst hw8
    clear hw1
    go_wp2
    clear ha x2 y1
    go_loopw [3, 20] (fun v kv wr => ∃ (k : Nat) (into' : Nat → Option Nat), k ≤ xs.length ∧ kv = .int .i64 k ∧ OwC6 wr w.heap.size M v ((xs.take k).map root) ∧ Bd6 wr B T M into' face cnt ∧ Fr6 M.length into' root rk ∧ Ch6 M w wr) (fun _ kv _ => xs.length - (intOf kv).toNat)
    case atStart => exact ⟨0, into, Nat.zero_le _, rfl, ⟨rfl, .inl ⟨rfl, rfl⟩⟩, HB.out, HF.out, Ch6.refl _ _⟩
    case round =>
      obtain ⟨k, into', hk, rfl, how, hb', hf', hch⟩ := hrel
      have HOw := hid how
      have HB' := hid hb'
      have HF' := hid hf'
      have HC := hid hch
      clear how hb' hf' hch
      by_cases hlt : k < xs.length
      · have hdk : decide ((k : Int) < (xs.length : Int)) = true := by simpa using hlt
        obtain ⟨x, hx⟩ : ∃ x, xs[k]? = some x := ⟨_, List.getElem?_eq_getElem hlt⟩
        have hxl := HX1.out x (List.mem_of_getElem? hx)
        obtain ⟨mx, hmx⟩ : ∃ m, M[x]? = some m := ⟨_, List.getElem?_eq_getElem hxl⟩
        obtain ⟨g, off, rfl, hgc, hcell⟩ : ∃ g off, ao = some ⟨g, off, none⟩ ∧ (∀ m' ∈ M, m'.cls ≠ g) ∧ w.cell? ⟨g, off + k, none⟩ = some (ndI M x) := by
          rcases HArg.out with h | ⟨g, off, h1, h2⟩
          · rw [h] at hlt; simp at hlt
          · exact ⟨g, off, h1, h2.2.1, h2.2.2 k x hx⟩
        have hcr := HC.out.cell hgc hcell
        have HXk := hid hx
        have HMx := hid hmx
        cases hnx : mx.nd with
        | var n =>
          rw [ndI_var hmx hnx] at hcr
          have HCl := hid (varClass_any HB'.out HF'.out hmx hnx)
          clear hx hcell hgc hmx hnx
          go_wp2_with fail
          refine HCl.out.mono ?_
          rintro e w1 ⟨into2, rfl, hrl, hb2, hf2, hc2⟩
          obtain ⟨mr, hmr⟩ : ∃ m, M[root x]? = some m := ⟨_, List.getElem?_eq_getElem hrl⟩
          rw [clV_eq hmr]
          have hCw := HC.out.trans hc2
          have ho1 : OwC6 w1 w.heap.size M _ ((xs.take k).map root) := own_ch6 HOw.out hc2 (fun m hm => Nat.lt_of_lt_of_le (HB.out.low m hm).1.2 HLo.out)
          obtain ⟨WA, hWA⟩ : ∃ X, X = w1.alloc (.cells #[.pointer (some ⟨mr.cls, 0, none⟩)] 68) := ⟨_, rfl⟩
          have bA : Below w1.heap.size w1 WA := by rw [hWA]; exact below_alloc _
          obtain ⟨v2, w2, hr2, o2, g2, _⟩ := join_cls6 102 (ao := some ⟨w1.heap.size, 0, none⟩) (cap := 1) (ys := [root x]) (own_ch6 ho1 (Ch6.of_below (M := M) bA) (fun m hm => Nat.lt_of_lt_of_le (HB.out.low m hm).1.2 HLo.out)) (.inr ⟨w1.heap.size, 0, rfl, fun j y hj => by
            match j, hj with
            | 0, hj =>
              cases hj
              rw [clV_eq hmr, hWA]
              exact cell_new rfl
            | j + 1, hj => simp at hj⟩) (Nat.le_trans hCw.size bA.size) (by rw [List.length_map, List.length_take]; simp; omega)
          have hnx2 : (xs.take (k + 1)).map root = (xs.take k).map root ++ [root x] := by rw [take_get HXk.out, List.map_append]; rfl
          rw [← hnx2] at o2
          have HR2 := hid hr2
          have HO2 := hid o2
          have hB2 : ∀ b, b < w.heap.size → w2.heap[b]? = w1.heap[b]? := fun b hb9 => by
            refine (g2.block b (Nat.lt_of_lt_of_le hb9 (Nat.le_trans hCw.size bA.size)) (fun e9 => ?_)).trans (bA.block b (Nat.lt_of_lt_of_le hb9 hCw.size))
            have := own_blk ho1 e9.symm
            omega
          have HB2 := hid (hb2.keep fun b hb9 => hB2 b (Nat.lt_of_lt_of_le hb9 HLo.out))
          have HC2 : Hid (Ch6 M w w2) := ⟨(g2.os.trans bA.os).trans hCw.os, (g2.tape.trans bA.tape).trans hCw.tape, (g2.output.trans bA.output).trans hCw.output, Nat.le_trans hCw.size (Nat.le_trans bA.size g2.size), fun b hb9 hm9 => (hB2 b hb9).trans (hCw.block b hb9 hm9)⟩
          have HF2 := hid hf2
          clear hb2 hf2 hc2 hCw ho1 bA hr2 o2 g2 hnx2 hB2 HCl hmr
          go_wp2_with (first
            | (rw [← hWA]; at_builtin; refine wpList_append_run rfl _ _ _ rfl _ _ rfl rfl HR2.out ?_))
          go_roundw
          case rel => exact ⟨k + 1, into2, hlt, by go_num, HO2.out, HB2.out, HF2.out, HC2.out⟩
          case measure => simp [intOf]; omega
        | app c2 xs2 =>
          rw [ndI_app hmx hnx] at hcr
          have HCl := hid (appClass_any HB'.out HF'.out hmx hnx)
          clear hx hcell hgc hmx hnx
          go_wp2_with fail
          refine HCl.out.mono ?_
          rintro e w1 ⟨into2, rfl, hrl, hb2, hf2, hc2⟩
          obtain ⟨mr, hmr⟩ : ∃ m, M[root x]? = some m := ⟨_, List.getElem?_eq_getElem hrl⟩
          rw [clV_eq hmr]
          have hCw := HC.out.trans hc2
          have ho1 : OwC6 w1 w.heap.size M _ ((xs.take k).map root) := own_ch6 HOw.out hc2 (fun m hm => Nat.lt_of_lt_of_le (HB.out.low m hm).1.2 HLo.out)
          obtain ⟨WA, hWA⟩ : ∃ X, X = w1.alloc (.cells #[.pointer (some ⟨mr.cls, 0, none⟩)] 68) := ⟨_, rfl⟩
          have bA : Below w1.heap.size w1 WA := by rw [hWA]; exact below_alloc _
          obtain ⟨v2, w2, hr2, o2, g2, _⟩ := join_cls6 102 (ao := some ⟨w1.heap.size, 0, none⟩) (cap := 1) (ys := [root x]) (own_ch6 ho1 (Ch6.of_below (M := M) bA) (fun m hm => Nat.lt_of_lt_of_le (HB.out.low m hm).1.2 HLo.out)) (.inr ⟨w1.heap.size, 0, rfl, fun j y hj => by
            match j, hj with
            | 0, hj =>
              cases hj
              rw [clV_eq hmr, hWA]
              exact cell_new rfl
            | j + 1, hj => simp at hj⟩) (Nat.le_trans hCw.size bA.size) (by rw [List.length_map, List.length_take]; simp; omega)
          have hnx2 : (xs.take (k + 1)).map root = (xs.take k).map root ++ [root x] := by rw [take_get HXk.out, List.map_append]; rfl
          rw [← hnx2] at o2
          have HR2 := hid hr2
          have HO2 := hid o2
          have hB2 : ∀ b, b < w.heap.size → w2.heap[b]? = w1.heap[b]? := fun b hb9 => by
            refine (g2.block b (Nat.lt_of_lt_of_le hb9 (Nat.le_trans hCw.size bA.size)) (fun e9 => ?_)).trans (bA.block b (Nat.lt_of_lt_of_le hb9 hCw.size))
            have := own_blk ho1 e9.symm
            omega
          have HB2 := hid (hb2.keep fun b hb9 => hB2 b (Nat.lt_of_lt_of_le hb9 HLo.out))
          have HC2 : Hid (Ch6 M w w2) := ⟨(g2.os.trans bA.os).trans hCw.os, (g2.tape.trans bA.tape).trans hCw.tape, (g2.output.trans bA.output).trans hCw.output, Nat.le_trans hCw.size (Nat.le_trans bA.size g2.size), fun b hb9 hm9 => (hB2 b hb9).trans (hCw.block b hb9 hm9)⟩
          have HF2 := hid hf2
          clear hb2 hf2 hc2 hCw ho1 bA hr2 o2 g2 hnx2 hB2 HCl hmr
          go_wp2_with (first
            | (rw [← hWA]; at_builtin; refine wpList_append_run rfl _ _ _ rfl _ _ rfl rfl HR2.out ?_))
          go_roundw
          case rel => exact ⟨k + 1, into2, hlt, by go_num, HO2.out, HB2.out, HF2.out, HC2.out⟩
          case measure => simp [intOf]; omega
      · have hdk : decide ((k : Int) < (xs.length : Int)) = false := by simpa using (show ¬ (k : Int) < (xs.length : Int) by omega)
        have hke : xs.take k = xs := List.take_of_length_le (by omega)
        rw [hke, ← HPe.out] at HOw
        clear hke
        go_wp2
        go_ret
        exact ⟨_, into', rfl, HOw.out, HB'.out, HF'.out, HC.out⟩

end Go.Proofs.YtelacmijkbgliaaDoor

/- argumentPairs of package unify walked. -/
namespace Go.Proofs.YtelacmijkbgliaaDoor
open Go.RowKit Go.Maps Go.BigFrame

/-- Pairs of nodes as values. -/
def prV (M : List Nm) (P : List (Nat × Nat)) : List (Value × Value) := P.map fun p => (ndI M p.1, ndI M p.2)

theorem prV_one {M : List Nm} {P : List (Nat × Nat)} (h : ∀ p ∈ P, p.1 < M.length ∧ p.2 < M.length) : ∀ u ∈ prC (prV M P), u.oneCell' = true := fun u hu => by
  unfold prC prV at hu
  rw [List.flatMap_map] at hu
  obtain ⟨p, hp, hu⟩ := List.mem_flatMap.1 hu
  obtain ⟨h1, h2⟩ := h p hp
  simp only [List.mem_cons, List.not_mem_nil, or_false] at hu
  rcases hu with rfl | rfl
  · obtain ⟨ty, b, e⟩ := ndI_form h1
    rw [e]
    rfl
  · obtain ⟨ty, b, e⟩ := ndI_form h2
    rw [e]
    rfl

set_option maxRecDepth 100000 in
set_option maxHeartbeats 3200000 in
theorem uArgs_any {w : World} {B T : Nat} {M : List Nm} {into : Nat → Option Nat} {face : Nat → Nat} {cnt : Nat → Int} (hb : Bd6 w B T M into face cnt) (hlow : T ≤ w.heap.size) (hwf : ∀ (i : Nat) (m : Nm) (c : Int) (xs : List Nat), M[i]? = some m → m.nd = .app c xs → (∀ x ∈ xs, x < M.length) ∧ xs.length ≤ 1000) (hsym : ∀ (i j : Nat) (m m' : Nm) (c : Int) (xs ys : List Nat), M[i]? = some m → M[j]? = some m' → m.nd = .app c xs → m'.nd = .app c ys → xs.length = ys.length)
    {a b : Nat} (ha : a < M.length) (hbl : b < M.length) :
    Calls Tryd.prog 62 #[ndI M a, ndI M b] w fun e w' => ∃ v', e = .returned (.tuple #[v', .bool (!clash (M.map Nm.nd) a b)]) ∧ (clash (M.map Nm.nd) a b = false → OwP6 w' w.heap.size v' (prV M (argP (M.map Nm.nd) a b))) ∧ Below w.heap.size w w' := by
  obtain ⟨ma, hma⟩ : ∃ m, M[a]? = some m := ⟨_, List.getElem?_eq_getElem ha⟩
  obtain ⟨mb, hmb⟩ : ∃ m, M[b]? = some m := ⟨_, List.getElem?_eq_getElem hbl⟩
  have eA : (M.map Nm.nd)[a]? = some ma.nd := by rw [List.getElem?_map, hma]; rfl
  have eB : (M.map Nm.nd)[b]? = some mb.nd := by rw [List.getElem?_map, hmb]; rfl
  obtain ⟨C, hC⟩ : ∃ C, C = clash (M.map Nm.nd) a b := ⟨_, rfl⟩
  obtain ⟨P, hP⟩ : ∃ P, P = argP (M.map Nm.nd) a b := ⟨_, rfl⟩
  rw [← hC, ← hP]
  unfold clash at hC
  unfold argP at hP
  rw [eA, eB] at hC hP
  have HIa := hid (uIsVar_any w ha)
  have HIb := hid (uIsVar_any w hbl)
  unfold isVarN at HIa HIb
  rw [hma] at HIa
  rw [hmb] at HIb
  simp only [Option.map_some] at HIa HIb
  cases hna : ma.nd with
  | var n =>
    rw [hna] at hC hP HIa
    simp only at hC hP HIa
    rw [ndI_var hma hna] at HIa ⊢
    subst hC hP
    obtain ⟨vb, hvb⟩ : ∃ v, v = ndI M b := ⟨_, rfl⟩
    rw [← hvb]
    clear hb hlow hwf hsym ha hbl hma hmb eA eB hna hvb HIb
    go_enter Tryd.func62, Tryd.ntmps62
    go_wp2_with fail
    refine HIa.out.mono ?_
    rintro e w1 ⟨rfl, hw1⟩
    have hw8 := hw1.symm
    subst hw8
    clear hw1
    go_wp2
    go_ret2
    exact ⟨_, rfl, fun _ => ⟨rfl, .inl ⟨rfl, rfl⟩⟩, Below.refl _ _⟩
  | app c xs =>
    rw [hna] at hC hP HIa
    rw [ndI_app hma hna] at HIa ⊢
    cases hnb : mb.nd with
    | var n =>
      rw [hnb] at hC hP HIb
      simp only at hC hP HIa HIb
      rw [ndI_var hmb hnb] at HIb ⊢
      subst hC hP
      clear hb hlow hwf hsym ha hbl hma hmb eA eB hna hnb
      go_enter Tryd.func62, Tryd.ntmps62
      go_wp2_with fail
      refine HIa.out.mono ?_
      rintro e w1 ⟨rfl, hw1⟩
      have hw8 := hw1.symm
      subst hw8
      clear hw1
      go_wp2_with fail
      refine HIb.out.mono ?_
      rintro e w1 ⟨rfl, hw1⟩
      have hw8 := hw1.symm
      subst hw8
      clear hw1
      go_wp2
      go_ret2
      exact ⟨_, rfl, fun _ => ⟨rfl, .inl ⟨rfl, rfl⟩⟩, Below.refl _ _⟩
    | app c' ys =>
      rw [hnb] at hC hP HIb
      simp only at hC hP HIa HIb
      rw [ndI_app hmb hnb] at HIb ⊢
      obtain ⟨ao, cap, ⟨x0, x1, _⟩, hcap1, hcap2, hargs⟩ := hb.app hma hna
      obtain ⟨bo, cap', ⟨y0, y1, _⟩, hcap1', hcap2', hargs'⟩ := hb.app hmb hnb
      unfold maxLen at hcap2 hcap2'
      have has1 := as_uapp (.pointer (some ⟨ma.blk, 0, none⟩))
      have has2 := as_uapp (.pointer (some ⟨mb.blk, 0, none⟩))
      have HLo := hid hlow
      by_cases hcc : c = c'
      · subst hcc
        have hlen := hsym a b ma mb c xs ys hma hmb hna hnb
        obtain ⟨hx1, hx2⟩ := hwf _ _ _ _ hma hna
        obtain ⟨hy1, hy2⟩ := hwf _ _ _ _ hmb hnb
        have hCf : C = false := by rw [hC]; simp
        subst hCf
        have HX1 := hid hx1
        have HY1 := hid hy1
        have HArg := hid hargs
        have HArg' := hid hargs'
        have HPe := hid hP
        have HLen := hid hlen
        have hcn : (c != c) = false := by simp
        clear hb hlow hwf hsym ha hbl hma hmb eA eB hna hnb hC hP hx1 hy1 hargs hargs' hlen
        go_enter Tryd.func62, Tryd.ntmps62
        go_wp2_with fail
        refine HIa.out.mono ?_
        rintro e w1 ⟨rfl, hw1⟩
        have hw8 := hw1.symm
        subst hw8
        clear hw1
        go_wp2_with fail
        refine HIb.out.mono ?_
        rintro e w1 ⟨rfl, hw1⟩
        have hw8 := hw1.symm
        subst hw8
        clear hw1
        go_wp2
        go_quiet (fail)
        go_wp2
        go_quiet (fail)
        go_wp2
        go_loopw [8, 35] (fun v kv wr => ∃ k : Nat, k ≤ xs.length ∧ kv = .int .i64 k ∧ OwP6 wr w.heap.size v (prV M ((xs.zip ys).take k)) ∧ Below w.heap.size w wr) (fun _ kv _ => xs.length - (intOf kv).toNat)
        case atStart => exact ⟨0, Nat.zero_le _, rfl, ⟨rfl, .inl ⟨rfl, rfl⟩⟩, drawn_below rfl⟩
        case round =>
          obtain ⟨k, hk, rfl, how, hbr⟩ := hrel
          have HOw := hid how
          have HBr := hid hbr
          clear how hbr
          by_cases hlt : k < xs.length
          · have hdk : decide ((k : Int) < (xs.length : Int)) = true := by simpa using hlt
            have hlt2 : k < ys.length := by have := HLen.out; omega
            obtain ⟨x, hx⟩ : ∃ x, xs[k]? = some x := ⟨_, List.getElem?_eq_getElem hlt⟩
            obtain ⟨y, hy⟩ : ∃ y, ys[k]? = some y := ⟨_, List.getElem?_eq_getElem hlt2⟩
            have hxl := HX1.out x (List.mem_of_getElem? hx)
            have hyl := HY1.out y (List.mem_of_getElem? hy)
            obtain ⟨g, off, rfl, hcell⟩ : ∃ g off, ao = some ⟨g, off, none⟩ ∧ w.cell? ⟨g, off + k, none⟩ = some (ndI M x) := by
              rcases HArg.out with h | ⟨g, off, h1, h2⟩
              · rw [h] at hlt; simp at hlt
              · exact ⟨g, off, h1, h2.2.2 k x hx⟩
            obtain ⟨g', off', rfl, hcell'⟩ : ∃ g off, bo = some ⟨g, off, none⟩ ∧ w.cell? ⟨g, off + k, none⟩ = some (ndI M y) := by
              rcases HArg'.out with h | ⟨g, off, h1, h2⟩
              · rw [h] at hlt2; simp at hlt2
              · exact ⟨g, off, h1, h2.2.2 k y hy⟩
            have q0 := (Kp.of_below HBr.out).cell _ _ hcell
            have q1 := (Kp.of_below HBr.out).cell _ _ hcell'
            have q2 := (Kp.of_below HBr.out).cell _ _ y1
            have hone := prV_one (M := M) (P := [(x, y)]) (fun p hp => by rw [List.mem_singleton] at hp; subst hp; exact ⟨hxl, hyl⟩)
            have hnx : prV M ((xs.zip ys).take (k + 1)) = prV M ((xs.zip ys).take k) ++ prV M [(x, y)] := by
              have hz : (xs.zip ys)[k]? = some (x, y) := by rw [List.getElem?_zip_eq_some]; exact ⟨hx, hy⟩
              rw [List.take_add_one, hz, Option.toList_some]
              unfold prV
              rw [List.map_append]
            obtain ⟨tx, bx, ex⟩ := ndI_form hxl
            obtain ⟨ty, bY, ey⟩ := ndI_form hyl
            have hpe : prV M [(x, y)] = [(.iface tx (.pointer (some ⟨bx, 0, none⟩)), .iface ty (.pointer (some ⟨bY, 0, none⟩)))] := by unfold prV; simp only [List.map_cons, List.map_nil]; rw [ex, ey]
            rw [hpe] at hnx hone
            rw [ex] at q0
            rw [ey] at q1
            have hplen : (prV M ((xs.zip ys).take k)).length ≤ 1000 := by unfold prV; rw [List.length_map, List.length_take]; omega
            obtain ⟨WA, hWA⟩ : ∃ X, X = wr.alloc (.cells #[.iface tx (.pointer (some ⟨bx, 0, none⟩)), .iface ty (.pointer (some ⟨bY, 0, none⟩))] 97) := ⟨_, rfl⟩
            have bA : Below wr.heap.size wr WA := by rw [hWA]; exact below_alloc _
            obtain ⟨v2, w2, hr2, o2, g2, _⟩ := join_pairs6 98 (ao := some ⟨wr.heap.size, 0, none⟩) (cap := 1) (ys := [(.iface tx (.pointer (some ⟨bx, 0, none⟩)), .iface ty (.pointer (some ⟨bY, 0, none⟩)))]) (own_ch6 HOw.out (Ch6.of_below (M := []) bA) (fun m hm => by cases hm)) (.inr ⟨wr.heap.size, 0, rfl, fun j u hj => by
              rw [hWA]
              match j, hj with
              | 0, hj =>
                cases hj
                exact cell_new rfl
              | 1, hj =>
                cases hj
                exact cell_new rfl
              | j + 2, hj => simp [prC] at hj⟩) hone (Nat.le_trans HBr.out.size bA.size) (by simp only [List.length_cons, List.length_nil]; omega)
            rw [← hnx] at o2
            have HR2 := hid hr2
            have HO2 := hid o2
            have HB2 : Hid (Below w.heap.size w w2) := (below_step HBr.out bA).grown g2 (Nat.le_trans HBr.out.size bA.size) (fun j hj => own_blk HOw.out hj)
            clear hx hy hcell hcell' hone hnx ex ey hpe hplen bA hr2 o2 g2
            go_wp2_with (first
              | (rw [← hWA]; at_builtin; refine wpList_append_run rfl _ _ _ rfl _ _ rfl rfl HR2.out ?_))
            go_roundw
            case rel => exact ⟨k + 1, hlt, by go_num, HO2.out, HB2.out⟩
            case measure => simp [intOf]; omega
          · have hdk : decide ((k : Int) < (xs.length : Int)) = false := by simpa using (show ¬ (k : Int) < (xs.length : Int) by omega)
            have hke : (xs.zip ys).take k = P := by
              rw [HPe.out]
              exact List.take_of_length_le (by rw [List.length_zip]; omega)
            rw [hke] at HOw
            clear hke
            go_wp2
            go_ret2
            exact ⟨_, rfl, fun _ => HOw.out, HBr.out⟩
      · have hCt : C = true := by rw [hC]; simp [hcc]
        subst hCt
        have hcn : (c != c') = true := by rw [bne_iff_ne]; exact hcc
        clear hb hlow hwf hsym ha hbl hma hmb eA eB hna hnb hC hP hargs hargs'
        go_enter Tryd.func62, Tryd.ntmps62
        go_wp2_with fail
        refine HIa.out.mono ?_
        rintro e w1 ⟨rfl, hw1⟩
        have hw8 := hw1.symm
        subst hw8
        clear hw1
        go_wp2_with fail
        refine HIb.out.mono ?_
        rintro e w1 ⟨rfl, hw1⟩
        have hw8 := hw1.symm
        subst hw8
        clear hw1
        go_wp2
        go_quiet (fail)
        go_wp2
        go_quiet (fail)
        go_wp2
        go_ret2
        exact ⟨_, rfl, fun h => (by cases h), drawn_below (World.drewN_drewN _ _ _)⟩

end Go.Proofs.YtelacmijkbgliaaDoor

/- For join of package unify: forests and roots, plainly. -/
namespace Go.Proofs.YtelacmijkbgliaaDoor
open Go.RowKit Go.Maps Go.BigFrame

theorem clash_symm (L : List Nd) (a b : Nat) : clash L a b = clash L b a := by
  unfold clash
  cases h1 : L[a]? with
  | none =>
    cases h2 : L[b]? with
    | none => rfl
    | some y => cases y <;> rfl
  | some x =>
    cases h2 : L[b]? with
    | none => cases x <;> rfl
    | some y =>
      cases x with
      | var n => cases y <;> rfl
      | app c xs =>
        cases y with
        | var n => rfl
        | app c' ys =>
          simp only
          by_cases e : c = c'
          · subst e
            rfl
          · rw [decide_eq_false e, decide_eq_false (fun h => e h.symm)]

/-- Two ways made one. -/
theorem Fr6.uni {n : Nat} {into : Nat → Option Nat} {root rk : Nat → Nat} (h : Fr6 n into root rk) {c d : Nat} (hc : c < n) (hrc : root c = c) (hrd : root d = d) (hne : c ≠ d) : Fr6 n (fun i => if i = d then some c else into i) (uniR root c d) (fun i => if root i = c then rk i + rk d + 1 else rk i) := fun i hi => by
  by_cases e : i = d
  · subst e
    simp only [if_true]
    refine ⟨fun h9 => (by cases h9), fun j hj => ?_⟩
    cases hj
    refine ⟨hc, ?_, ?_⟩
    · rw [hrd, if_neg (fun h => hne h.symm), hrc, if_pos rfl]
      omega
    · unfold uniR
      rw [hrc, hrd, if_neg hne, if_pos rfl]
  · simp only [if_neg e]
    refine ⟨fun h9 => ?_, fun j hj => ?_⟩
    · have h1 := (h i hi).1 h9
      unfold uniR
      rw [h1, if_neg e]
    · obtain ⟨h1, h2, h3⟩ := (h i hi).2 j hj
      refine ⟨h1, ?_, ?_⟩
      · rw [h3]
        split
        · omega
        · exact h2
      · unfold uniR
        rw [h3]

/-- How many classes there are. -/
def nRoots (n : Nat) (root : Nat → Nat) : Nat := ((List.range n).filter fun i => decide (root i = i)).length

theorem filter_less {α : Type} {p q : α → Bool} : ∀ {l : List α}, (∀ a ∈ l, p a = true → q a = true) → (l.filter p).length ≤ (l.filter q).length
  | [], _ => Nat.le_refl _
  | a :: l, h => by
    have ih := filter_less (p := p) (q := q) (l := l) (fun x hx => h x (by simp [hx]))
    by_cases hp : p a = true
    · rw [List.filter_cons_of_pos hp, List.filter_cons_of_pos (h a (by simp) hp)]
      simp only [List.length_cons]
      omega
    · rw [List.filter_cons_of_neg hp]
      by_cases hq : q a = true
      · rw [List.filter_cons_of_pos hq]
        simp only [List.length_cons]
        omega
      · rw [List.filter_cons_of_neg hq]
        exact ih

theorem filter_lt {α : Type} {p q : α → Bool} {l : List α} (h : ∀ a ∈ l, p a = true → q a = true) {x : α} (hx : x ∈ l) (hq : q x = true) (hp : p x = false) : (l.filter p).length < (l.filter q).length := by
  obtain ⟨u, v, rfl⟩ := List.append_of_mem hx
  rw [List.filter_append, List.filter_append, List.filter_cons_of_pos hq, List.filter_cons_of_neg (by rw [hp]; simp), List.length_append, List.length_append, List.length_cons]
  have h1 := filter_less (p := p) (q := q) (l := u) (fun a ha => h a (by simp [ha]))
  have h2 := filter_less (p := p) (q := q) (l := v) (fun a ha => h a (by simp [ha]))
  omega

theorem nRoots_uni {n : Nat} {root : Nat → Nat} {c d : Nat} (hd : d < n) (hrd : root d = d) (hrc : root c = c) (hne : c ≠ d) : nRoots n (uniR root c d) < nRoots n root := by
  unfold nRoots
  refine filter_lt (fun i _ hp => ?_) (List.mem_range.2 hd) (decide_eq_true hrd) (decide_eq_false ?_)
  · have h1 := of_decide_eq_true hp
    refine decide_eq_true ?_
    unfold uniR at h1
    split at h1
    · rename_i h2
      subst h1
      rw [hrc] at h2
      exact absurd h2 hne
    · exact h1
  · unfold uniR
    rw [hrd, if_pos rfl]
    exact hne

theorem nRoots_le (n : Nat) (root : Nat → Nat) : nRoots n root ≤ n := by
  unfold nRoots
  have := List.length_filter_le (fun i => decide (root i = i)) (List.range n)
  simpa using this

theorem argP_len {sig : List Sy} (ha : ArOk sig) {L : List Nd} (hL : NdOk sig L) (a b : Nat) : (argP L a b).length ≤ 1000 ∧ ∀ p ∈ argP L a b, p.1 < L.length ∧ p.2 < L.length := by
  unfold argP
  split
  · rename_i c xs c' ys h1 h2
    obtain ⟨_, g2, g3⟩ := hL.sym _ _ _ h1
    have hs : sig[c.toNat]? = some sig[c.toNat] := List.getElem?_eq_getElem g2
    have h8 : xs.length ≤ 1000 := by
      rw [g3]
      unfold arN
      rw [hs]
      have := ha _ (List.mem_of_getElem? hs)
      simp only
      omega
    refine ⟨by rw [List.length_zip]; omega, fun p hp => ?_⟩
    obtain ⟨i, hi⟩ := List.getElem?_of_mem hp
    rw [List.getElem?_zip_eq_some] at hi
    exact ⟨Nat.lt_trans (hL.ahead _ _ _ h1 _ (List.mem_of_getElem? hi.1)) (List.getElem?_eq_some_iff.1 h1).1, Nat.lt_trans (hL.ahead _ _ _ h2 _ (List.mem_of_getElem? hi.2)) (List.getElem?_eq_some_iff.1 h2).1⟩
  · exact ⟨Nat.zero_le _, fun p hp => by cases hp⟩

/-- What the walks ask of nodes. -/
theorem nd_wf {sig : List Sy} (ha : ArOk sig) {M : List Nm} (hL : NdOk sig (M.map Nm.nd)) : (∀ (i : Nat) (m : Nm) (c : Int) (xs : List Nat), M[i]? = some m → m.nd = .app c xs → (∀ x ∈ xs, x < M.length) ∧ xs.length ≤ 1000) ∧ ∀ (i j : Nat) (m m' : Nm) (c : Int) (xs ys : List Nat), M[i]? = some m → M[j]? = some m' → m.nd = .app c xs → m'.nd = .app c ys → xs.length = ys.length := by
  have key : ∀ (i : Nat) (m : Nm) (c : Int) (xs : List Nat), M[i]? = some m → m.nd = .app c xs → (M.map Nm.nd)[i]? = some (Nd.app c xs) := fun i m c xs h1 h2 => by rw [List.getElem?_map, h1, Option.map_some, h2]
  refine ⟨fun i m c xs h1 h2 => ?_, fun i j m m' c xs ys h1 h2 h3 h4 => ?_⟩
  · have h3 := key i m c xs h1 h2
    obtain ⟨_, g2, g3⟩ := hL.sym _ _ _ h3
    have hs : sig[c.toNat]? = some sig[c.toNat] := List.getElem?_eq_getElem g2
    refine ⟨fun x hx => Nat.lt_trans (hL.ahead _ _ _ h3 x hx) (List.getElem?_eq_some_iff.1 h1).1, ?_⟩
    rw [g3]
    unfold arN
    rw [hs]
    have := ha _ (List.mem_of_getElem? hs)
    simp only
    omega
  · rw [(hL.sym _ _ _ (key i m c xs h1 h3)).2.2, (hL.sym _ _ _ (key j m' c ys h2 h4)).2.2]

end Go.Proofs.YtelacmijkbgliaaDoor

/- finish of package unify walked. -/
namespace Go.Proofs.YtelacmijkbgliaaDoor
open Go.RowKit Go.Maps Go.BigFrame

/-- The nodes of a class by those of its parts, cut off. -/
def sumC (cnt : Nat → Int) (ps : List Nat) : Int := ps.foldl (fun s p => if s + cnt p < 513 then s + cnt p else 513) 1

theorem sumC_snoc (cnt : Nat → Int) (ps : List Nat) (p : Nat) : sumC cnt (ps ++ [p]) = if sumC cnt ps + cnt p < 513 then sumC cnt ps + cnt p else 513 := by
  unfold sumC
  rw [List.foldl_append]
  rfl

theorem sumC_bnd {cnt : Nat → Int} {ps : List Nat} (h : ∀ p ∈ ps, 0 ≤ cnt p ∧ cnt p ≤ 513) : 1 ≤ sumC cnt ps ∧ sumC cnt ps ≤ 513 := by
  unfold sumC
  have key : ∀ (ps : List Nat) (s : Int), (∀ p ∈ ps, 0 ≤ cnt p ∧ cnt p ≤ 513) → 1 ≤ s → s ≤ 513 → 1 ≤ ps.foldl (fun s p => if s + cnt p < 513 then s + cnt p else 513) s ∧ ps.foldl (fun s p => if s + cnt p < 513 then s + cnt p else 513) s ≤ 513 := by
    intro ps
    induction ps with
    | nil => intro s _ h1 h2; exact ⟨h1, h2⟩
    | cons p ps ih =>
      intro s h h1 h2
      rw [List.foldl_cons]
      have hp := h p (by simp)
      apply ih _ (fun x hx => h x (by simp [hx]))
      · split <;> omega
      · split <;> omega
  exact key ps 1 h (by omega) (by omega)

theorem ptsN_lt {M : List Nm} {root : Nat → Nat} (hwf : ∀ (i : Nat) (m : Nm) (c : Int) (xs : List Nat), M[i]? = some m → m.nd = .app c xs → (∀ x ∈ xs, x < M.length) ∧ xs.length ≤ 1000) (hr : ∀ i, i < M.length → root i < M.length) {f : Nat} : (∀ p ∈ ptsN M root f, p < M.length) ∧ (ptsN M root f).length ≤ 1000 := by
  unfold ptsN
  cases hm : M[f]? with
  | none => exact ⟨fun p hp => by simp at hp, by simp⟩
  | some m =>
    simp only [Option.map_some]
    cases hn : m.nd with
    | var n => exact ⟨fun p hp => by simp at hp, by simp⟩
    | app c xs =>
      obtain ⟨h1, h2⟩ := hwf f m c xs hm hn
      simp only
      refine ⟨fun p hp => ?_, by rw [List.length_map]; exact h2⟩
      obtain ⟨x, hx, rfl⟩ := List.mem_map.1 hp
      exact hr x (h1 x hx)

set_option maxRecDepth 100000 in
set_option maxHeartbeats 3200000 in
theorem finish_any {w : World} {B T : Nat} {M : List Nm} {into : Nat → Option Nat} {face : Nat → Nat} {cnt : Nat → Int} {root rk : Nat → Nat} (hb : Bd6 w B T M into face cnt) (hf : Fr6 M.length into root rk) (hlow : T ≤ w.heap.size) (hwf : ∀ (i : Nat) (m : Nm) (c : Int) (xs : List Nat), M[i]? = some m → m.nd = .app c xs → (∀ x ∈ xs, x < M.length) ∧ xs.length ≤ 1000) (hr : ∀ i, i < M.length → root i < M.length)
    {i : Nat} {mi : Nm} (hmi : M[i]? = some mi) (hfl : face i < M.length) (hp : cnt i = -1 → ∀ p ∈ ptsN M root (face i), p ≠ i ∧ 0 ≤ cnt p ∧ cnt p ≤ 513) :
    Calls Tryd.prog 64 #[.pointer (some ⟨mi.cls, 0, none⟩)] w fun e w' => e = .returned (.tuple #[]) ∧ ∃ into', Bd6 w' B T M into' face (fun j => if j = i then (if cnt i = -1 then sumC cnt (ptsN M root (face i)) else cnt i) else cnt j) ∧ Fr6 M.length into' root rk ∧ Ch6 M w w' := by
  obtain ⟨k9, hk9, _, _, _, x3⟩ := hb.clc hmi
  have HB := hid hb
  have HF := hid hf
  have HLo := hid hlow
  have HWf := hid hwf
  have HMi := hid hmi
  by_cases hc : cnt i = -1
  · have hp' := hp hc
    rw [if_pos hc]
    obtain ⟨ps, hps⟩ : ∃ ps, ps = ptsN M root (face i) := ⟨_, rfl⟩
    rw [← hps] at hp' ⊢
    obtain ⟨hpl, hpn⟩ := ptsN_lt hwf hr (f := face i)
    rw [← hps] at hpl hpn
    rw [hc] at x3
    have f3 : w.frozen? ⟨mi.cls, 3, none⟩ = false := frozen_of_row _ _ _ _ _ hk9
    obtain ⟨W1, hW1⟩ : ∃ X, X = w.setCell ⟨mi.cls, 3, none⟩ (.int .i64 1) := ⟨_, rfl⟩
    obtain ⟨hb1, hc1⟩ := hb.put hmi (o := into i) (f := face i) (n := 1) (w' := W1) (by rw [hW1]; exact set_grown _ _ _ _) ⟨k9, by rw [hW1]; exact heap_setCell_same _ _ _ _ _ _ hk9⟩
    rw [if_self6, if_self6] at hb1
    have HC1 := hid hc1
    have HPa := hid (parts_any hb1 hf (Nat.le_trans hlow hc1.size) hwf hmi hfl)
    rw [← hps] at HPa
    have HP' := hid hp'
    have HPl := hid hpl
    have HCe := hid hc
    clear hb hf hlow hwf hmi hfl hp hc hp' hpl hps hk9 hb1 hc1 hr
    go_enter Tryd.func64, Tryd.ntmps64
    go_upto_region 2 with fail
    rw [← hW1]
    clear hW1 x3 f3
    go_wp2_with fail
    refine HPa.out.mono ?_
    rintro e w2 ⟨v2, into2, rfl, o2, hb2, hf2, hc2⟩
    obtain ⟨ao, cap, hv2, hcp1, hcp2⟩ := o2.shape
    subst hv2
    unfold maxLen at hcp2
    have HO2 := hid o2
    have HB2 := hid hb2
    have HF2 := hid hf2
    have HC2 := hid (HC1.out.trans hc2)
    have HS2 := hid (Nat.le_trans HLo.out HC1.out.size)
    clear o2 hb2 hf2 hc2 HPa
    go_wp2
    go_loopw [15] (fun kv wr => ∃ k : Nat, k ≤ ps.length ∧ kv = .int .i64 k ∧ OwC6 wr W1.heap.size M (.slice ao ps.length cap) ps ∧ Bd6 wr B T M into2 face (fun j => if j = i then sumC cnt (ps.take k) else cnt j) ∧ Ch6 M w wr) (fun kv _ => ps.length - (intOf kv).toNat)
    case atStart => exact ⟨0, Nat.zero_le _, rfl, HO2.out, HB2.out, HC2.out⟩
    case round =>
      obtain ⟨k, hk, rfl, how, hbr, hcr⟩ := hrel
      have HOw := hid how
      have HBr := hid hbr
      have HCr := hid hcr
      by_cases hlt : k < ps.length
      · have hdk : decide ((k : Int) < (ps.length : Int)) = true := by simpa using hlt
        obtain ⟨p, hpk⟩ : ∃ p, ps[k]? = some p := ⟨_, List.getElem?_eq_getElem hlt⟩
        have hpm := List.mem_of_getElem? hpk
        obtain ⟨hpi, hp0, hp1⟩ := HP'.out p hpm
        obtain ⟨mp, hmp⟩ : ∃ m, M[p]? = some m := ⟨_, List.getElem?_eq_getElem (HPl.out p hpm)⟩
        obtain ⟨g, cp, hv, hge, hcl1, hcl2, hcell⟩ := own_last6 how hpk
        simp only [Value.slice.injEq] at hv
        obtain ⟨rfl, _, rfl⟩ := hv
        rw [clV_eq hmp] at hcell
        obtain ⟨kp, _, _, _, _, q3⟩ := hbr.clc hmp
        obtain ⟨ki, hki, _, _, _, s3⟩ := hbr.clc HMi.out
        simp only [if_neg hpi] at q3
        simp only [if_true] at s3 hki
        have hbd := sumC_bnd (cnt := cnt) (ps := ps.take k) (fun x hx => ⟨(HP'.out x (List.mem_of_mem_take hx)).2.1, (HP'.out x (List.mem_of_mem_take hx)).2.2⟩)
        obtain ⟨S, hS⟩ : ∃ S, S = sumC cnt (ps.take k) := ⟨_, rfl⟩
        rw [← hS] at s3 hki hbd
        have f3 : wr.frozen? ⟨mi.cls, 3, none⟩ = false := frozen_of_row _ _ _ _ _ hki
        have hw1 : IntKind.i64.wrap (S + cnt p) = S + cnt p := IntWalk.i64_in _ ⟨by omega, by omega⟩
        have HNx : Hid (sumC cnt (ps.take (k + 1)) = if S + cnt p < 513 then S + cnt p else 513) := by
          show _ = _
          rw [List.take_add_one, hpk, Option.toList_some, sumC_snoc, ← hS]
        have HDone : Hid (∀ (X : Int), X = (if S + cnt p < 513 then S + cnt p else 513) → ∀ W, W = (wr.setCell ⟨mi.cls, 3, none⟩ (.int .i64 X)).drew → OwC6 W W1.heap.size M (.slice (some ⟨g, 0, none⟩) ps.length cap) ps ∧ Bd6 W B T M into2 face (fun j => if j = i then sumC cnt (ps.take (k + 1)) else cnt j) ∧ Ch6 M w W) := fun X hX W hW => by
          have hgr : wr.grownBy W (some mi.cls) := by rw [hW]; exact grown_trans (set_grown _ _ _ _) (grown_of_below (drawn_below1 _) _)
          obtain ⟨hb5, hc5⟩ := HBr.out.put HMi.out (o := into2 i) (f := face i) (n := X) (w' := W) hgr ⟨ki, by rw [hW]; show (World.setCell _ _ _).heap[mi.cls]? = _; exact heap_setCell_same _ _ _ _ _ _ hki⟩
          rw [if_self6, if_self6] at hb5
          have hfun : (fun j => if j = i then X else if j = i then sumC cnt (ps.take k) else cnt j) = fun j => if j = i then sumC cnt (ps.take (k + 1)) else cnt j := by
            funext j
            by_cases e : j = i
            · rw [if_pos e, if_pos e, HNx.out, hX]
            · rw [if_neg e, if_neg e, if_neg e]
          rw [hfun] at hb5
          exact ⟨own_ch6 HOw.out hc5 (fun m hm => Nat.lt_of_lt_of_le (HBr.out.low m hm).1.2 HS2.out), hb5, HCr.out.trans hc5⟩
        clear how hbr hcr hki hpk hmp hS hpm
        go_wp2
        go_region
        obtain ⟨W, hW⟩ : ∃ X, X = (wr.setCell ⟨mi.cls, 3, none⟩ (.int .i64 (min (S + cnt p) 513))).drew := ⟨_, rfl⟩
        have HDn := hid (HDone.out _ (by split <;> omega) W hW)
        rw [← hW]
        clear hW hcell q3 s3 f3 hw1
        go_wp2
        go_roundw
        case rel => exact ⟨k + 1, hlt, by go_num, HDn.out.1, HDn.out.2.1, HDn.out.2.2⟩
        case measure => simp [intOf]; omega
      · have hdk : decide ((k : Int) < (ps.length : Int)) = false := by simpa using (show ¬ (k : Int) < (ps.length : Int) by omega)
        rw [List.take_of_length_le (by omega)] at HBr
        clear how hbr hcr
        go_wp2
        go_end0
        exact ⟨rfl, into2, HBr.out, HF2.out, HCr.out⟩
  · rw [if_neg hc]
    have hne : (cnt i != -1) = true := by rw [bne_iff_ne]; exact hc
    have hfe : (fun j => if j = i then cnt i else cnt j) = cnt := if_self6
    rw [hfe]
    clear hb hf hlow hwf hmi hfl hp hk9
    go_enter Tryd.func64, Tryd.ntmps64
    go_wp2
    (try simp only [Exit.inBlock, Exit.then])
    refine bodyPost_ret (results_none rfl _ _ _) rfl ?_
    exact ⟨rfl, into, HB.out, HF.out, Ch6.refl _ _⟩

end Go.Proofs.YtelacmijkbgliaaDoor
