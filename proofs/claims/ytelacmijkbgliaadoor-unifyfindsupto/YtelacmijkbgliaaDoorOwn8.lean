/- Texts of the proof, one behind the other. -/
import Derived.Test.YtelacmijkbgliaaDoorOwn7
/- The document's board: close walked. -/
namespace Go.Proofs.YtelacmijkbgliaaDoor
open Go.RowKit Go.Maps Go.BigFrame

/-- What the numbers of a slice add up to. -/
def memC (lv : Value) (w : World) : Nat := match lv with
  | .slice (some a) n _ => ((List.range n).map fun j => match w.cell? ⟨a.block, j, none⟩ with | some (.int _ x) => x.toNat | _ => 0).sum
  | _ => 0

theorem memC_is {w : World} {base : Nat} {v : Value} {xs : List Nat} (h : OwI w base v (natL xs)) : memC v w = xs.sum := by
  have h2 := h.2
  rcases h2.2 with ⟨rfl, hn⟩ | ⟨g, cap, cur, rfl, hb, hg, hc, hm, hs, ht⟩
  · rw [natL_len] at hn
    rw [List.eq_nil_of_length_eq_zero hn]
    rfl
  · show ((List.range (natL xs).length).map _).sum = _
    congr 1
    apply List.ext_getElem?
    intro j
    rw [natL_len, List.getElem?_map]
    by_cases hj : j < xs.length
    · rw [List.getElem?_range hj, List.getElem?_eq_getElem hj, Option.map_some]
      have := (OwI.at h (natL_get (List.getElem?_eq_getElem hj))).1
      rw [this]
      simp
    · rw [List.getElem?_eq_none (by rw [List.length_range]; omega), List.getElem?_eq_none (by omega)]
      rfl

theorem joinD_one {C : List Nat} {a b x y : Nat} (h : C[x]? = C[y]?) : (joinD C a b)[x]? = (joinD C a b)[y]? := by
  unfold joinD
  split
  · exact h
  · rw [joinC_at, joinC_at, h]

def bolN : Value → Nat
  | .bool true => 1
  | _ => 0

/-- What close keeps. -/
structure ClK (sig : List Sy) (X : List Int) (K : List (List Nat)) (C : List Nat) (ra rb : Nat) : Prop where
  cl : ClB X C
  jn : JnB sig X K C ra rb
  one : C[ra]? = C[rb]?

set_option maxRecDepth 100000 in
set_option maxHeartbeats 3200000 in
theorem closeB_any {w0 w : World} {b : Nat} {cv kv lv : Value} {vs : List Value} {sig : List Sy} {X : List Int} {K : List (List Nat)} {C : List Nat} {ra rb : Nat} (hB : BOk6 sig X K) (h : BdB w0 w b cv kv lv vs X K C) (hK : ClK sig X K C ra rb) (hxl : X.length ≤ 1073741824) :
    Calls Tryd.prog 50 #[.pointer (some ⟨b, 0, none⟩)] w fun e w' => ∃ (ok : Bool) (C' : List Nat), e = .returned (.bool ok) ∧ BdB w0 w' b cv kv lv vs X K C' ∧ (ok = true → ClK sig X K C' ra rb ∧ CloB X K C') ∧ (ok = false → ∀ V, ValB sig X K V → V ra ≠ V rb) := by
  obtain ⟨⟨oX, cX, rfl⟩, ⟨oK, cK, rfl⟩, oC, cC, rfl⟩ := h.shape
  have HB := hid hB
  have HBd0 := hid h
  have HK0 := hid hK
  have hCl : C.length = X.length := hK.cl.len
  rw [hCl] at HBd0 ⊢
  clear h hK hB hCl
  go_enter Tryd.func50, Tryd.ntmps50
  go_wp2
  go_loopw [3] (fun av wr => ∃ (a : Bool) (C : List Nat), av = .bool a ∧ BdB w0 wr b (.slice oX X.length cX) (.slice oK K.length cK) (.slice oC X.length cC) vs X K C ∧ ClK sig X K C ra rb ∧ (a = false → CloB X K C)) (fun av wr => 2 * memC (.slice oC X.length cC) wr + bolN av)
  case atStart => exact ⟨true, C, rfl, HBd0.out, HK0.out, fun h => by cases h⟩
  case round =>
    clear HBd0 HK0
    obtain ⟨a, C1, rfl, hb, hk, hclo⟩ := hrel
    have HBd1 := hid hb
    have HK1 := hid hk
    have HM1 := hid (memC_is hb.cls)
    cases a
    · have HClo := hid (hclo rfl)
      clear hb hk hclo
      go_wp2
      go_ret
      exact ⟨true, C1, rfl, HBd1.out, fun _ => ⟨HK1.out, HClo.out⟩, fun h => by cases h⟩
    · clear hb hk hclo
      go_wp2
      go_loopw [3, 4] (fun av iv wr => ∃ (a : Bool) (i : Nat) (C : List Nat), i ≤ X.length ∧ av = .bool a ∧ iv = .int .i64 i ∧ BdB w0 wr b (.slice oX X.length cX) (.slice oK K.length cK) (.slice oC X.length cC) vs X K C ∧ ClK sig X K C ra rb ∧ (a = true → C.sum < C1.sum) ∧ (a = false → C = C1 ∧ ∀ j, j < i → CloAt X K C1 j)) (fun _ iv _ => X.length - (intOf iv).toNat)
      case atStart => exact ⟨false, 0, C1, Nat.zero_le _, rfl, rfl, HBd1.out, HK1.out, fun h => by (cases h), fun _ => ⟨rfl, fun j hj => by omega⟩⟩
      case round =>
        clear HBd1 HK1
        obtain ⟨a, i, C2, hi, rfl, rfl, hb, hk, hlt, hsm⟩ := hrel
        have HBd2 := hid hb
        have HK2 := hid hk
        have HLt := hid hlt
        have HSm := hid hsm
        have hC2 : C2.length = X.length := hk.cl.len
        obtain ⟨x0, x1, x2⟩ := hb.cells
        clear hb hk hlt hsm
        by_cases hil : i < X.length
        · obtain ⟨s, hs⟩ : ∃ s, X[i]? = some s := ⟨_, List.getElem?_eq_getElem hil⟩
          obtain ⟨c, hc⟩ : ∃ c, C2[i]? = some c := ⟨_, List.getElem?_eq_getElem (by omega)⟩
          obtain ⟨ks, hks⟩ : ∃ ks, K[i]? = some ks := ⟨_, List.getElem?_eq_getElem (by rw [HB.out.len]; exact hil)⟩
          obtain ⟨gX, qX, e1, y1⟩ := HBd2.out.atX hs
          obtain ⟨gC, qC, e2, y2, _⟩ := HBd2.out.atC hc
          simp only [Value.slice.injEq, true_and] at e1 e2
          obtain ⟨rfl, rfl⟩ := e1
          obtain ⟨rfl, hqc, rfl⟩ := e2
          clear hqc
          have HHd := hid (headB_any HBd2.out hC2 hxl c)
          have HX := hid hs
          have HC := hid hc
          have HKs := hid hks
          clear hs hc hks hC2
          obtain ⟨hv, hhv⟩ : ∃ z, z = headV X C2 c := ⟨_, rfl⟩
          rw [← hhv] at HHd
          have HHv := hid hhv
          clear hhv
          go_wp2_with fail
          refine HHd.out.mono ?_
          rintro e w2 ⟨rfl, rfl⟩
          clear HHd
          by_cases hsn : s < 0
          · have hd : decide (s < 0) = true := by simpa using hsn
            have HN : Hid (a = false → C2 = C1 ∧ ∀ j, j < i + 1 → CloAt X K C1 j) := fun ha => ⟨(HSm.out ha).1, fun j hj => by
              by_cases hji : j < i
              · exact (HSm.out ha).2 j hji
              · obtain rfl : j = i := by omega
                exact cloAt_var HX.out hsn⟩
            go_wp2
            go_roundw
            case rel => exact ⟨a, i + 1, C2, hil, rfl, by go_num, HBd2.out, HK2.out, HLt.out, HN.out⟩
            case measure => simp only [intOf]; omega
          · have hd : decide (s < 0) = false := by simp; omega
            obtain ⟨hd', hhd⟩ := headB_of HX.out hsn HC.out
            have hve : hv = (hd' : Int) := by rw [HHv.out]; unfold headV; rw [hhd]
            subst hve
            obtain ⟨hdl, hdc, s', hs', hsn'⟩ := headB_some hhd
            have HHb := hid hhd
            have HHc := hid hdc
            have HXh := hid hs'
            have HSn : Hid (¬ s < 0) := hsn
            have HSn' : Hid (¬ s' < 0) := hsn'
            clear hhd hdc HHv
            by_cases hdi : hd' = i
            · have hq : ((hd' : Int) == (i : Int)) = true := by simp [hdi]
              have HN : Hid (a = false → C2 = C1 ∧ ∀ j, j < i + 1 → CloAt X K C1 j) := fun ha => ⟨(HSm.out ha).1, fun j hj => by
                by_cases hji : j < i
                · exact (HSm.out ha).2 j hji
                · obtain rfl : j = i := by omega
                  have h9 := HC.out
                  have h8 := HHb.out
                  rw [(HSm.out ha).1] at h9 h8
                  rw [hdi] at h8
                  exact cloAt_head h9 h8⟩
              clear hs'
              go_wp2
              go_roundw
              case rel => exact ⟨a, i + 1, C2, hil, rfl, by go_num, HBd2.out, HK2.out, HLt.out, HN.out⟩
              case measure => simp only [intOf]; omega
            · have hq : ((hd' : Int) == (i : Int)) = false := by simp; omega
              obtain ⟨gX', qX', e1, y3⟩ := HBd2.out.atX hs'
              simp only [Value.slice.injEq, Option.some.injEq, Addr.mk.injEq, and_true, true_and] at e1
              obtain ⟨rfl, rfl⟩ := e1
              clear hs'
              have HVe : Hid (∀ V, ValB sig X K V → V ra = V rb → V i = V hd') := fun V hV he => HK2.out.jn V hV he i hd' hil hdl (by rw [HC.out, HHc.out])
              by_cases hss : s' = s
              · obtain ⟨ls, hls⟩ : ∃ ls, K[hd']? = some ls := ⟨_, List.getElem?_eq_getElem (by rw [HB.out.len]; exact hdl)⟩
                have hln0 : ls.length = ks.length := by rw [(HB.out.kids _ _ _ HXh.out hls).2 HSn'.out, (HB.out.kids _ _ _ HX.out HKs.out).2 HSn.out, hss]
                have HLs := hid hls
                have HLn := hid hln0
                clear hln0
                clear hls
                subst hss
                have hq2 : (s' != s') = false := by simp
                have HBd3 := hid (HBd2.out.later (drawn_below1 w2))
                go_wp2
                go_region
                clear y1 y2 y3 x0 x1 x2
                go_wp2_with fail
                obtain ⟨wd, hwd⟩ : ∃ X, X = w2.drew := ⟨_, rfl⟩
                rw [← hwd] at HBd3 ⊢
                clear hwd
                go_loopw [3, 6] (fun av kv wr => ∃ (a : Bool) (k : Nat) (C : List Nat), k ≤ ks.length ∧ av = .bool a ∧ kv = .int .i64 k ∧ BdB w0 wr b (.slice (some ⟨gX, 0, none⟩) X.length cX) (.slice oK K.length cK) (.slice (some ⟨gC, 0, none⟩) X.length cC) vs X K C ∧ ClK sig X K C ra rb ∧ (a = true → C.sum < C1.sum) ∧ (a = false → C = C1 ∧ C2 = C1 ∧ (∀ j, j < i → CloAt X K C1 j) ∧ ∀ (m x y : Nat), m < k → ks[m]? = some x → ls[m]? = some y → C1[x]? = C1[y]?)) (fun _ kv _ => ks.length - (intOf kv).toNat)
                case atStart => exact ⟨a, 0, C2, Nat.zero_le _, rfl, rfl, HBd3.out, HK2.out, HLt.out, fun ha => ⟨(HSm.out ha).1, (HSm.out ha).1, (HSm.out ha).2, fun m x y hm => by omega⟩⟩
                case round =>
                  clear HBd3 HLt
                  obtain ⟨a3, k, C3, hkl, rfl, rfl, hb, hk, hlt, hsm⟩ := hrel
                  have HBd3 := hid hb
                  have HK3 := hid hk
                  have HLt3 := hid hlt
                  have HSm3 := hid hsm
                  obtain ⟨x0, x1, x2⟩ := hb.cells
                  clear hb hk hlt hsm
                  by_cases hkn : k < ks.length
                  · obtain ⟨x, hx⟩ : ∃ x, ks[k]? = some x := ⟨_, List.getElem?_eq_getElem hkn⟩
                    obtain ⟨y, hy⟩ : ∃ y, ls[k]? = some y := ⟨_, List.getElem?_eq_getElem (by rw [HLn.out]; exact hkn)⟩
                    obtain ⟨gk, qk, o1, c1, e1, t1, ow1⟩ := HBd3.out.atK HKs.out
                    simp only [Value.slice.injEq, true_and] at e1
                    obtain ⟨rfl, rfl⟩ := e1
                    obtain ⟨gk', qk', o2, c2, e2, t2, ow2⟩ := HBd3.out.atK HLs.out
                    simp only [Value.slice.injEq, Option.some.injEq, Addr.mk.injEq, and_true, true_and] at e2
                    obtain ⟨rfl, rfl⟩ := e2
                    obtain ⟨g1, d1, e3, _, t3, _⟩ := ow1.nat hx
                    simp only [Value.slice.injEq, true_and] at e3
                    obtain ⟨rfl, rfl⟩ := e3
                    obtain ⟨g2, d2, e4, _, t4, _⟩ := ow2.nat hy
                    simp only [Value.slice.injEq, true_and] at e4
                    obtain ⟨rfl, rfl⟩ := e4
                    obtain ⟨hxi, hxl2⟩ := HB.out.lt i ks HKs.out x (List.mem_of_getElem? hx)
                    obtain ⟨hyi, hyl2⟩ := HB.out.lt hd' ls HLs.out y (List.mem_of_getElem? hy)
                    obtain ⟨cx, hcx⟩ : ∃ c, C3[x]? = some c := ⟨_, List.getElem?_eq_getElem (by rw [HK3.out.cl.len]; exact hxl2)⟩
                    obtain ⟨cy, hcy⟩ : ∃ c, C3[y]? = some c := ⟨_, List.getElem?_eq_getElem (by rw [HK3.out.cl.len]; exact hyl2)⟩
                    have hcxl := (HK3.out.cl.id x cx hcx).1
                    have hcyl := (HK3.out.cl.id y cy hcy).1
                    have hvx : ∀ V, ValB sig X K V → V ra = V rb → V x = V y := fun V hV he => by
                      have h9 := (argsB_same HB.out hV HX.out HXh.out HKs.out HLs.out (by have := HSn.out; omega) (by have := HSn'.out; omega) (HVe.out V hV he)).2
                      have h8 := congrArg (fun l => l[k]?) h9
                      simp only [List.getElem?_map, hx, hy, Option.map_some, Option.some.injEq] at h8
                      exact h8
                    obtain ⟨j1, j2, j3, j4⟩ := joinD_ok HK3.out.cl HK3.out.jn hcx hcy hvx
                    have HKn : Hid (ClK sig X K (joinD C3 cx cy) ra rb) := ⟨j1, j2, joinD_one HK3.out.one⟩
                    have HJs := hid j3
                    have HJl := hid j4
                    have HJn : Hid (∀ Z, Below wr.heap.size wr Z → Calls Tryd.prog 49 #[.pointer (some ⟨b, 0, none⟩), .int .i64 (x : Int), .int .i64 (y : Int)] Z fun e w' => e = .returned (.bool (decide (cx ≠ cy))) ∧ BdB w0 w' b (.slice (some ⟨gX, 0, none⟩) X.length cX) (.slice (some ⟨gk, 0, none⟩) K.length cK) (.slice (some ⟨gC, 0, none⟩) X.length cC) vs X K (joinD C3 cx cy)) := fun Z hZ => joinB_any (HBd3.out.later hZ) hcx hcy (by omega) (by omega) (by rw [HK3.out.cl.len]; exact hxl)
                    have HS0 : Hid (∀ Z, Below wr.heap.size wr Z → Z.cell? ⟨b, 1, none⟩ = some (.slice (some ⟨gk, 0, none⟩) K.length cK) ∧ Z.cell? ⟨gk, i, none⟩ = some (.slice (some ⟨g1, 0, none⟩) ks.length c1) ∧ Z.cell? ⟨gk, hd', none⟩ = some (.slice (some ⟨g2, 0, none⟩) ls.length c2) ∧ Z.cell? ⟨g1, k, none⟩ = some (.int .i64 (x : Int)) ∧ Z.cell? ⟨g2, k, none⟩ = some (.int .i64 (y : Int))) := fun Z hZ => ⟨(Kp.of_below hZ).cell _ _ x1, (Kp.of_below hZ).cell _ _ t1, (Kp.of_below hZ).cell _ _ t2, (Kp.of_below hZ).cell _ _ t3, (Kp.of_below hZ).cell _ _ t4⟩
                    have HS1 : Hid (∀ {Z : World} {C' : List Nat}, BdB w0 Z b (.slice (some ⟨gX, 0, none⟩) X.length cX) (.slice (some ⟨gk, 0, none⟩) K.length cK) (.slice (some ⟨gC, 0, none⟩) X.length cC) vs X K C' → Z.cell? ⟨b, 1, none⟩ = some (.slice (some ⟨gk, 0, none⟩) K.length cK) ∧ Z.cell? ⟨gk, i, none⟩ = some (.slice (some ⟨g1, 0, none⟩) ks.length c1) ∧ Z.cell? ⟨gk, hd', none⟩ = some (.slice (some ⟨g2, 0, none⟩) ls.length c2) ∧ Z.cell? ⟨g1, k, none⟩ = some (.int .i64 (x : Int)) ∧ Z.cell? ⟨g2, k, none⟩ = some (.int .i64 (y : Int))) := fun {Z C'} hZ => by
                      obtain ⟨u1, q1, p1, f1, m1, v1, n1⟩ := hZ.atK HKs.out
                      obtain ⟨u2, q2, p2, f2, m2, v2, n2⟩ := hZ.atK HLs.out
                      simp only [Value.slice.injEq, Option.some.injEq, Addr.mk.injEq, and_true, true_and] at m1 m2
                      obtain ⟨rfl, rfl⟩ := m1
                      obtain ⟨rfl, rfl⟩ := m2
                      have z1 : vs[i]? = some (.slice p1 ks.length f1) := by
                        have := World.ownsRow.cellAt hZ.row i (by have := (List.getElem?_eq_some_iff.1 HKs.out).1; omega)
                        rw [← this]; exact v1
                      have z2 : vs[hd']? = some (.slice p2 ls.length f2) := by
                        have := World.ownsRow.cellAt hZ.row hd' (by have := (List.getElem?_eq_some_iff.1 HLs.out).1; omega)
                        rw [← this]; exact v2
                      have z3 : vs[i]? = some (.slice (some ⟨g1, 0, none⟩) ks.length c1) := by
                        have := World.ownsRow.cellAt HBd3.out.row i (by have := (List.getElem?_eq_some_iff.1 HKs.out).1; omega)
                        rw [← this]; exact t1
                      have z4 : vs[hd']? = some (.slice (some ⟨g2, 0, none⟩) ls.length c2) := by
                        have := World.ownsRow.cellAt HBd3.out.row hd' (by have := (List.getElem?_eq_some_iff.1 HLs.out).1; omega)
                        rw [← this]; exact t2
                      rw [z1] at z3
                      rw [z2] at z4
                      simp only [Option.some.injEq, Value.slice.injEq, true_and] at z3 z4
                      obtain ⟨rfl, rfl⟩ := z3
                      obtain ⟨rfl, rfl⟩ := z4
                      exact ⟨hZ.cells.2.1, v1, v2, (OwI.at n1 (natL_get hx)).1, (OwI.at n2 (natL_get hy)).1⟩
                    have hkm : ks.length ≤ 9223372036854775807 := by have h9 := ow1.shape; rw [natL_len] at h9; obtain ⟨_, cm, _, h8, h7⟩ := h9; unfold maxLen at h7; omega
                    have hKi : i < K.length := (List.getElem?_eq_some_iff.1 HKs.out).1
                    have hKd : hd' < K.length := (List.getElem?_eq_some_iff.1 HLs.out).1
                    have hkl2 : k < ls.length := (List.getElem?_eq_some_iff.1 hy).1
                    have HXk := hid hx
                    have HYk := hid hy
                    have hdk : decide ((k : Int) < (ks.length : Int)) = true := by simpa using hkn
                    clear hx hy hcx hcy hvx j1 j2 j3 j4 x0 x2 ow1 ow2 t3 t4
                    go_upto_region 14 with fail
                    -- R:join
                    have hS : wr.drew.cell? ⟨b, 1, none⟩ = some (.slice (some ⟨gk, 0, none⟩) K.length cK) ∧ wr.drew.cell? ⟨gk, i, none⟩ = some (.slice (some ⟨g1, 0, none⟩) ks.length c1) ∧ wr.drew.cell? ⟨gk, hd', none⟩ = some (.slice (some ⟨g2, 0, none⟩) ls.length c2) ∧ wr.drew.cell? ⟨g1, k, none⟩ = some (.int .i64 (x : Int)) ∧ wr.drew.cell? ⟨g2, k, none⟩ = some (.int .i64 (y : Int)) := HS0.out _ (drawn_below1 wr)
                    refine wp_region_held_drew (S := fun w' => w'.cell? ⟨b, 1, none⟩ = some (.slice (some ⟨gk, 0, none⟩) K.length cK) ∧ w'.cell? ⟨gk, i, none⟩ = some (.slice (some ⟨g1, 0, none⟩) ks.length c1) ∧ w'.cell? ⟨gk, hd', none⟩ = some (.slice (some ⟨g2, 0, none⟩) ls.length c2) ∧ w'.cell? ⟨g1, k, none⟩ = some (.int .i64 (x : Int)) ∧ w'.cell? ⟨g2, k, none⟩ = some (.int .i64 (y : Int))) (by kernel_rfl) hS (fun _ => ?_)
                    obtain ⟨z0, hz0⟩ : ∃ X, X = wr.drew := ⟨_, rfl⟩
                    have b0 : Below wr.heap.size wr z0 := by rw [hz0]; exact drawn_below1 _
                    rw [← hz0] at hS ⊢
                    clear hz0
                    refine wpAnyH_take (i := 0) (v := .pointer (some ⟨b, 0, none⟩)) rfl (by kernel_rfl) (by kernel_rfl) (by kernel_rfl) (fun _ _ _ h => h) (Or.inl ⟨by kernel_rfl, fun w' h => by go_simp⟩) hS ?_
                    (try simp only [Act.put]); (try simp only [List.setIfInBounds_toArray]); (try simp only [List.set_cons_zero, List.set_cons_succ])
                    refine wpAnyH_take (i := 1) (v := .pointer (some ⟨b, 0, none⟩)) rfl (by kernel_rfl) (by kernel_rfl) (by kernel_rfl) (fun _ _ _ h => h) (Or.inl ⟨by kernel_rfl, fun w' h => by go_simp⟩) hS ?_
                    (try simp only [Act.put]); (try simp only [List.setIfInBounds_toArray]); (try simp only [List.set_cons_zero, List.set_cons_succ])
                    refine wpAnyH_take (i := 2) (v := .pointer (some ⟨b, 0, none⟩)) rfl (by kernel_rfl) (by kernel_rfl) (by kernel_rfl) (fun _ _ _ h => h) (Or.inl ⟨by kernel_rfl, fun w' h => by go_simp⟩) hS ?_
                    (try simp only [Act.put]); (try simp only [List.setIfInBounds_toArray]); (try simp only [List.set_cons_zero, List.set_cons_succ])
                    refine wpAnyH_take (i := 3) (v := .pointer (some ⟨b, 1, none⟩)) rfl (by kernel_rfl) (by kernel_rfl) (by kernel_rfl) (fun _ _ _ h => h) (Or.inl ⟨by kernel_rfl, fun w' h => by go_simp⟩) hS ?_
                    (try simp only [Act.put]); (try simp only [List.setIfInBounds_toArray]); (try simp only [List.set_cons_zero, List.set_cons_succ])
                    refine wpAnyH_take (i := 4) (v := .slice (some ⟨gk, 0, none⟩) K.length cK) rfl (by kernel_rfl) (by kernel_rfl) (by kernel_rfl) (fun _ _ _ h => h) (Or.inl ⟨by kernel_rfl, fun w' h => by have hh0 := h.1; go_simp⟩) hS ?_
                    (try simp only [Act.put]); (try simp only [List.setIfInBounds_toArray]); (try simp only [List.set_cons_zero, List.set_cons_succ])
                    refine wpAnyH_take (i := 5) (v := .int .i64 (i : Int)) rfl (by kernel_rfl) (by kernel_rfl) (by kernel_rfl) (fun _ _ _ h => h) (Or.inl ⟨by kernel_rfl, fun w' h => by go_simp⟩) hS ?_
                    (try simp only [Act.put]); (try simp only [List.setIfInBounds_toArray]); (try simp only [List.set_cons_zero, List.set_cons_succ])
                    refine wpAnyH_take (i := 6) (v := .pointer (some ⟨gk, i, none⟩)) rfl (by kernel_rfl) (by kernel_rfl) (by kernel_rfl) (fun _ _ _ h => h) (Or.inl ⟨by kernel_rfl, fun w' h => by go_simp⟩) hS ?_
                    (try simp only [Act.put]); (try simp only [List.setIfInBounds_toArray]); (try simp only [List.set_cons_zero, List.set_cons_succ])
                    refine wpAnyH_take (i := 7) (v := .slice (some ⟨g1, 0, none⟩) ks.length c1) rfl (by kernel_rfl) (by kernel_rfl) (by kernel_rfl) (fun _ _ _ h => h) (Or.inl ⟨by kernel_rfl, fun w' h => by have hh0 := h.2.1; go_simp⟩) hS ?_
                    (try simp only [Act.put]); (try simp only [List.setIfInBounds_toArray]); (try simp only [List.set_cons_zero, List.set_cons_succ])
                    refine wpAnyH_take (i := 8) (v := .int .i64 (k : Int)) rfl (by kernel_rfl) (by kernel_rfl) (by kernel_rfl) (fun _ _ _ h => h) (Or.inl ⟨by kernel_rfl, fun w' h => by go_simp⟩) hS ?_
                    (try simp only [Act.put]); (try simp only [List.setIfInBounds_toArray]); (try simp only [List.set_cons_zero, List.set_cons_succ])
                    refine wpAnyH_take (i := 9) (v := .pointer (some ⟨g1, k, none⟩)) rfl (by kernel_rfl) (by kernel_rfl) (by kernel_rfl) (fun _ _ _ h => h) (Or.inl ⟨by kernel_rfl, fun w' h => by go_simp⟩) hS ?_
                    (try simp only [Act.put]); (try simp only [List.setIfInBounds_toArray]); (try simp only [List.set_cons_zero, List.set_cons_succ])
                    refine wpAnyH_take (i := 10) (v := .int .i64 (x : Int)) rfl (by kernel_rfl) (by kernel_rfl) (by kernel_rfl) (fun _ _ _ h => h) (Or.inl ⟨by kernel_rfl, fun w' h => by have hh0 := h.2.2.2.1; go_simp⟩) hS ?_
                    (try simp only [Act.put]); (try simp only [List.setIfInBounds_toArray]); (try simp only [List.set_cons_zero, List.set_cons_succ])
                    refine wpAnyH_take (i := 11) (v := .pointer (some ⟨b, 0, none⟩)) rfl (by kernel_rfl) (by kernel_rfl) (by kernel_rfl) (fun _ _ _ h => h) (Or.inl ⟨by kernel_rfl, fun w' h => by go_simp⟩) hS ?_
                    (try simp only [Act.put]); (try simp only [List.setIfInBounds_toArray]); (try simp only [List.set_cons_zero, List.set_cons_succ])
                    refine wpAnyH_take (i := 12) (v := .pointer (some ⟨b, 0, none⟩)) rfl (by kernel_rfl) (by kernel_rfl) (by kernel_rfl) (fun _ _ _ h => h) (Or.inl ⟨by kernel_rfl, fun w' h => by go_simp⟩) hS ?_
                    (try simp only [Act.put]); (try simp only [List.setIfInBounds_toArray]); (try simp only [List.set_cons_zero, List.set_cons_succ])
                    refine wpAnyH_take (i := 13) (v := .pointer (some ⟨b, 1, none⟩)) rfl (by kernel_rfl) (by kernel_rfl) (by kernel_rfl) (fun _ _ _ h => h) (Or.inl ⟨by kernel_rfl, fun w' h => by go_simp⟩) hS ?_
                    (try simp only [Act.put]); (try simp only [List.setIfInBounds_toArray]); (try simp only [List.set_cons_zero, List.set_cons_succ])
                    refine wpAnyH_take (i := 14) (v := .slice (some ⟨gk, 0, none⟩) K.length cK) rfl (by kernel_rfl) (by kernel_rfl) (by kernel_rfl) (fun _ _ _ h => h) (Or.inl ⟨by kernel_rfl, fun w' h => by have hh0 := h.1; go_simp⟩) hS ?_
                    (try simp only [Act.put]); (try simp only [List.setIfInBounds_toArray]); (try simp only [List.set_cons_zero, List.set_cons_succ])
                    refine wpAnyH_take (i := 15) (v := .int .i64 (hd' : Int)) rfl (by kernel_rfl) (by kernel_rfl) (by kernel_rfl) (fun _ _ _ h => h) (Or.inl ⟨by kernel_rfl, fun w' h => by go_simp⟩) hS ?_
                    (try simp only [Act.put]); (try simp only [List.setIfInBounds_toArray]); (try simp only [List.set_cons_zero, List.set_cons_succ])
                    refine wpAnyH_take (i := 16) (v := .pointer (some ⟨gk, hd', none⟩)) rfl (by kernel_rfl) (by kernel_rfl) (by kernel_rfl) (fun _ _ _ h => h) (Or.inl ⟨by kernel_rfl, fun w' h => by go_simp⟩) hS ?_
                    (try simp only [Act.put]); (try simp only [List.setIfInBounds_toArray]); (try simp only [List.set_cons_zero, List.set_cons_succ])
                    refine wpAnyH_take (i := 17) (v := .slice (some ⟨g2, 0, none⟩) ls.length c2) rfl (by kernel_rfl) (by kernel_rfl) (by kernel_rfl) (fun _ _ _ h => h) (Or.inl ⟨by kernel_rfl, fun w' h => by have hh0 := h.2.2.1; go_simp⟩) hS ?_
                    (try simp only [Act.put]); (try simp only [List.setIfInBounds_toArray]); (try simp only [List.set_cons_zero, List.set_cons_succ])
                    refine wpAnyH_take (i := 18) (v := .int .i64 (k : Int)) rfl (by kernel_rfl) (by kernel_rfl) (by kernel_rfl) (fun _ _ _ h => h) (Or.inl ⟨by kernel_rfl, fun w' h => by go_simp⟩) hS ?_
                    (try simp only [Act.put]); (try simp only [List.setIfInBounds_toArray]); (try simp only [List.set_cons_zero, List.set_cons_succ])
                    refine wpAnyH_take (i := 19) (v := .pointer (some ⟨g2, k, none⟩)) rfl (by kernel_rfl) (by kernel_rfl) (by kernel_rfl) (fun _ _ _ h => h) (Or.inl ⟨by kernel_rfl, fun w' h => by go_simp⟩) hS ?_
                    (try simp only [Act.put]); (try simp only [List.setIfInBounds_toArray]); (try simp only [List.set_cons_zero, List.set_cons_succ])
                    refine wpAnyH_take (i := 20) (v := .int .i64 (y : Int)) rfl (by kernel_rfl) (by kernel_rfl) (by kernel_rfl) (fun _ _ _ h => h) (Or.inl ⟨by kernel_rfl, fun w' h => by have hh0 := h.2.2.2.2; go_simp⟩) hS ?_
                    (try simp only [Act.put]); (try simp only [List.setIfInBounds_toArray]); (try simp only [List.set_cons_zero, List.set_cons_succ])
                    refine wpAnyH_ready (rs := [21]) (by kernel_rfl) (by simp) (AllReadyH.cons rfl (fun Kc hKc => ?_) AllReadyH.nil)
                    go_simp
                    refine (HJn.out z0 b0).mono ?_
                    rintro e z1 ⟨rfl, hbd⟩
                    have hS1 : z1.cell? ⟨b, 1, none⟩ = some (.slice (some ⟨gk, 0, none⟩) K.length cK) ∧ z1.cell? ⟨gk, i, none⟩ = some (.slice (some ⟨g1, 0, none⟩) ks.length c1) ∧ z1.cell? ⟨gk, hd', none⟩ = some (.slice (some ⟨g2, 0, none⟩) ls.length c2) ∧ z1.cell? ⟨g1, k, none⟩ = some (.int .i64 (x : Int)) ∧ z1.cell? ⟨g2, k, none⟩ = some (.int .i64 (y : Int)) := HS1.out hbd
                    refine hKc.out _ _ hS1 (fun _ => ?_)
                    clear hKc Kc hS hS1
                    have HBd := hid hbd
                    clear hbd
                    (try simp only [Act.put]); (try simp only [List.setIfInBounds_toArray]); (try simp only [List.set_cons_zero, List.set_cons_succ])
                    refine wpAnyH_done (by kernel_rfl) ?_ _
                    (try simp only [Act.put]); (try simp only [List.getElem_toArray]); (try simp only [List.getElem_cons_succ, List.getElem_cons_zero]); (try simp only [List.setIfInBounds_toArray]); (try simp only [List.set_cons_succ, List.set_cons_zero])
                    by_cases hxy : cx = cy
                    · have hne : decide (cx ≠ cy) = false := by simp [hxy]
                      have HCe : Hid (joinD C3 cx cy = C3) := by
                        show _ = _
                        unfold joinD
                        rw [if_pos hxy]
                      have HN : Hid (a3 = false → C3 = C1 ∧ C2 = C1 ∧ (∀ j, j < i → CloAt X K C1 j) ∧ ∀ (m x y : Nat), m < k + 1 → ks[m]? = some x → ls[m]? = some y → C1[x]? = C1[y]?) := fun ha => by
                        obtain ⟨q1, q2, q3, q4⟩ := HSm3.out ha
                        refine ⟨q1, q2, q3, fun m x' y' hm h1 h2 => ?_⟩
                        by_cases hmk : m < k
                        · exact q4 m x' y' hmk h1 h2
                        · obtain rfl : m = k := by omega
                          rw [HXk.out] at h1
                          rw [HYk.out] at h2
                          cases h1
                          cases h2
                          have h9 := HJs.out
                          rw [HCe.out, q1] at h9
                          exact h9
                      rw [HCe.out] at HBd
                      go_wp2
                      go_roundw
                      case rel => exact ⟨a3, k + 1, C3, hkn, rfl, by go_num, HBd.out, HK3.out, HLt3.out, HN.out⟩
                      case measure => simp only [intOf]; omega
                    · have hne : decide (cx ≠ cy) = true := by simp [hxy]
                      have HN : Hid ((joinD C3 cx cy).sum < C1.sum) := by
                        show _ < _
                        have h9 := HJl.out hxy
                        cases a3
                        · obtain ⟨q1, _⟩ := HSm3.out rfl
                          rw [q1] at h9 ⊢
                          exact h9
                        · have := HLt3.out rfl
                          omega
                      go_wp2
                      go_roundw
                      case rel => exact ⟨true, k + 1, _, hkn, rfl, by go_num, HBd.out, HKn.out, fun _ => HN.out, fun h => by cases h⟩
                      case measure => simp only [intOf]; omega
                  · have hdk : decide ((k : Int) < (ks.length : Int)) = false := by simpa using hkn
                    obtain ⟨gk, qk, o1, c1, e1, t1, _⟩ := HBd3.out.atK HKs.out
                    have hKi : i < K.length := (List.getElem?_eq_some_iff.1 HKs.out).1
                    simp only [Value.slice.injEq, true_and] at e1
                    obtain ⟨rfl, rfl⟩ := e1
                    have HN : Hid (a3 = false → C3 = C1 ∧ ∀ j, j < i + 1 → CloAt X K C1 j) := fun ha => by
                      obtain ⟨q1, q2, q3, q4⟩ := HSm3.out ha
                      refine ⟨q1, fun j hj => ?_⟩
                      by_cases hji : j < i
                      · exact q3 j hji
                      · obtain rfl : j = i := by omega
                        have h9 := HC.out
                        have h8 := HHb.out
                        rw [q2] at h9 h8
                        exact cloAt_of HX.out HKs.out h9 h8 HXh.out HLs.out fun m x y h1 h2 => q4 m x y (by have := (List.getElem?_eq_some_iff.1 h1).1; omega) h1 h2
                    go_wp2
                    go_roundw
                    case rel => exact ⟨a3, i + 1, C3, hil, rfl, by go_num, HBd3.out, HK3.out, HLt3.out, HN.out⟩
                    case measure => simp only [intOf]; omega
              · have hq2 : (s' != s) = true := by simpa using hss
                have HNo : Hid (∀ V, ValB sig X K V → V ra ≠ V rb) := fun V hV he => by
                  obtain ⟨ls, hls⟩ : ∃ ls, K[hd']? = some ls := ⟨_, List.getElem?_eq_getElem (by rw [HB.out.len]; exact hdl)⟩
                  exact hss (argsB_same HB.out hV HX.out HXh.out HKs.out hls (by have := HSn.out; omega) (by have := HSn'.out; omega) (HVe.out V hV he)).1.symm
                have HBd3 := hid (HBd2.out.later (drawn_below1 w2))
                go_wp2
                go_region
                go_wp2
                go_ret
                exact ⟨false, C2, rfl, HBd3.out, fun h => by (cases h), fun _ => HNo.out⟩
        · have hie : i = X.length := by omega
          clear hC2
          have HMm := hid (memC_is HBd2.out.cls)
          have HN : Hid (a = false → CloB X K C2) := fun ha => by
            obtain ⟨q1, q2⟩ := HSm.out ha
            rw [q1]
            exact cloB_of fun j hj => q2 j (by omega)
          go_wp2
          go_roundw
          case rel => exact ⟨a, C2, rfl, HBd2.out, HK2.out, HN.out⟩
          case measure =>
            rw [HMm.out, HM1.out]
            cases a
            · obtain ⟨q1, _⟩ := HSm.out rfl
              rw [q1]
              simp [bolN]
            · have := HLt.out rfl
              simp only [bolN]
              omega

end Go.Proofs.YtelacmijkbgliaaDoor

/- The document's board: sizes walked. -/
namespace Go.Proofs.YtelacmijkbgliaaDoor
open Go.RowKit Go.Maps Go.BigFrame

theorem below_trans9 {B : Nat} {w w1 w2 : World} (h : Below B w w1) (h2 : Below w1.heap.size w1 w2) (hB : B ≤ w.heap.size) : Below B w w2 := h.trans (h2.mono (by have := h.size; omega))

/-- A size told. -/
theorem OwI.putN {w w0 : World} {g n cap : Nat} {N : List Nat} (h : OwI w w0.heap.size (.slice (some ⟨g, 0, none⟩) n cap) (natL N)) (hb : Below w0.heap.size w0 w) (hg : w0.heap.size ≤ g) (hn : n = N.length) (k : Nat) {a : Nat} (ha : a ≤ 1073741824) :
    OwI (w.setCell ⟨g, k, none⟩ (.int .i64 a)) w0.heap.size (.slice (some ⟨g, 0, none⟩) n cap) (natL (N.set k a)) ∧ Below w0.heap.size w0 (w.setCell ⟨g, k, none⟩ (.int .i64 a)) :=
  h.put hb hg (by rw [natL_len]; exact hn) (k := k) (z := (a : Int)) ⟨by omega, by omega⟩ (by unfold natL; rw [List.map_set])

set_option maxRecDepth 100000 in
set_option maxHeartbeats 3200000 in
theorem sizesB_any {w0 w : World} {b : Nat} {cv kv lv : Value} {vs : List Value} {sig : List Sy} {X : List Int} {K : List (List Nat)} {C : List Nat} (hB : BOk6 sig X K) (h : BdB w0 w b cv kv lv vs X K C) (hC : ClB X C) (hxl : X.length ≤ 1048576) :
    Calls Tryd.prog 51 #[.pointer (some ⟨b, 0, none⟩)] w fun e w' => ∃ N : List Nat, e = .returned (.slice (some ⟨w.heap.size, 0, none⟩) X.length X.length) ∧ OwI w' w.heap.size (.slice (some ⟨w.heap.size, 0, none⟩) X.length X.length) (natL N) ∧ Below w.heap.size w w' ∧ SzB X K C N ∧ ∀ c, C[c]? = some c → N[c]? = some 0 → WtB X K C N c := by
  obtain ⟨i0, hi, hz0, hz1, hz2⟩ := info_parts info_int
  obtain ⟨⟨oX, cX, rfl⟩, ⟨oK, cK, rfl⟩, oC, cC, rfl⟩ := h.shape
  obtain ⟨x0, x1, x2⟩ := h.cells
  have HB := hid hB
  have HBd := hid h
  have HC := hid hC
  have hCl : C.length = X.length := hC.len
  rw [hCl] at HBd x2
  have hbl : b < w.heap.size := (Array.getElem?_eq_some_iff.1 h.blk).1
  clear h hC hB hCl
  obtain ⟨g0, hg0⟩ : ∃ g, g = w.heap.size := ⟨_, rfl⟩
  have HG0 := hid hg0
  rw [← hg0]
  go_enter Tryd.func51, Tryd.ntmps51
  go_wp2_with (first
    | (at_make; refine wpList_make_full _ rfl _ _ 23 rfl w.heap.size 3 i0 (.int .i64 0) 1 under_ints hi hz0 hz1 .i64 .i64 _ _ X.length rfl rfl (by omega) (by omega) (by rw [hz2]; omega) (by unfold maxLen; omega) (Nat.le_refl _) ?_; intro w1 hown1 hgrow1))
  have hb1 : Below w.heap.size w w1 := (Below.refl _ _).grown hgrow1 (Nat.le_refl _) (by intro k hk; cases hk)
  have HO1 : Hid (OwI w1 w.heap.size (.slice (some ⟨w.heap.size, 0, none⟩) X.length X.length) (natL (List.replicate X.length 0))) := by
    have h9 := OwI.made hown1
    have e : natL (List.replicate X.length 0) = List.replicate X.length 0 := by simp [natL]
    show OwI _ _ _ _
    rw [e]
    exact h9
  have HB1 := hid hb1
  clear hown1 hgrow1 hb1 hi hz0 hz1 hz2 x0 x1 x2
  rw [← hg0] at HO1 HB1 hbl ⊢
  clear hg0
  go_loopw [4] (fun av wr => ∃ (a : Bool) (N : List Nat), av = .bool a ∧ OwI wr g0 (.slice (some ⟨g0, 0, none⟩) X.length X.length) (natL N) ∧ Below g0 w wr ∧ SzB X K C N ∧ (a = false → ∀ c, C[c]? = some c → N[c]? = some 0 → WtB X K C N c)) (fun av wr => 2 * (513 * X.length - memC (.slice (some ⟨g0, 0, none⟩) X.length X.length) wr) + bolN av)
  case atStart => exact ⟨true, _, rfl, HO1.out, HB1.out, szB_start X K C, fun h => by cases h⟩
  case round =>
    clear HO1 HB1
    obtain ⟨a, N1, rfl, ho, hb, hs, hw⟩ := hrel
    have HO1 := hid ho
    have HB1 := hid hb
    have HS1 := hid hs
    have HM1 := hid (memC_is ho)
    cases a
    · have HW := hid (hw rfl)
      clear ho hb hs hw
      go_wp2
      go_ret
      exact ⟨N1, rfl, HO1.out, HB1.out, HS1.out, HW.out⟩
    · clear ho hb hs hw
      go_wp2
      go_loopw [4, 5] (fun av cv wr => ∃ (a : Bool) (c : Nat) (N : List Nat), c ≤ X.length ∧ av = .bool a ∧ cv = .int .i64 c ∧ OwI wr g0 (.slice (some ⟨g0, 0, none⟩) X.length X.length) (natL N) ∧ Below g0 w wr ∧ SzB X K C N ∧ (a = true → N1.sum < N.sum) ∧ (a = false → N = N1 ∧ ∀ d, d < c → C[d]? = some d → N1[d]? = some 0 → WtB X K C N1 d)) (fun _ cv _ => X.length - (intOf cv).toNat)
      case atStart => exact ⟨false, 0, N1, Nat.zero_le _, rfl, rfl, HO1.out, HB1.out, HS1.out, fun h => by (cases h), fun _ => ⟨rfl, fun d hd => by omega⟩⟩
      case round =>
        clear HO1 HB1
        obtain ⟨a, c, N, hc, rfl, rfl, ho, hb, hs, hlt, hsm⟩ := hrel
        have HO := hid ho
        have HBl := hid hb
        have HS := hid hs
        have HLt := hid hlt
        have HSm := hid hsm
        have HBr : Hid (BdB w0 wr b (.slice oX X.length cX) (.slice oK K.length cK) (.slice oC X.length cC) vs X K C) := HBd.out.later (by rw [← HG0.out]; exact hb)
        obtain ⟨x0, x1, x2⟩ := HBr.out.cells
        clear ho hb hs hlt hsm
        by_cases hcl : c < X.length
        · obtain ⟨cc, hcc⟩ : ∃ d, C[c]? = some d := ⟨_, List.getElem?_eq_getElem (by rw [HC.out.len]; exact hcl)⟩
          obtain ⟨n, hn⟩ : ∃ n, N[c]? = some n := ⟨_, List.getElem?_eq_getElem (by rw [HS.out.1]; exact hcl)⟩
          obtain ⟨gC, qC, e2, y2, _⟩ := HBr.out.atC hcc
          simp only [Value.slice.injEq] at e2
          obtain ⟨rfl, hqc, rfl⟩ := e2
          have hcN : (c : Int) < (X.length : Int) := by omega
          obtain ⟨y3, y4⟩ := OwI.at HO.out (natL_get hn)
          have HCc := hid hcc
          have HNn := hid hn
          clear hqc hcc hn
          by_cases hcr : cc = c
          · have hq : ((cc : Int) != (c : Int)) = false := by simp [hcr]
            subst hcr
            by_cases hn0 : 0 < n
            · have hd : decide (0 < n) = true := by simpa using hn0
              have HN : Hid (a = false → N = N1 ∧ ∀ d, d < cc + 1 → C[d]? = some d → N1[d]? = some 0 → WtB X K C N1 d) := fun ha => ⟨(HSm.out ha).1, fun d hd h1 h2 => by
                by_cases hdc : d < cc
                · exact (HSm.out ha).2 d hdc h1 h2
                · obtain rfl : d = cc := by omega
                  have h9 := HNn.out
                  rw [(HSm.out ha).1, h2] at h9
                  cases h9
                  omega⟩
              go_wp2
              go_roundw
              case rel => exact ⟨a, cc + 1, N, hcl, rfl, by go_num, HO.out, HBl.out, HS.out, HLt.out, HN.out⟩
              case measure => simp only [intOf]; omega
            · obtain rfl : n = 0 := by omega
              have HHd := hid (headB_any HBr.out HC.out.len (by omega) cc)
              cases hh : headB X C cc with
              | none =>
                have e9 : headV X C cc = -1 := by unfold headV; rw [hh]
                rw [e9] at HHd
                have HT : Hid (∃ t, TmK X K C cc t ∧ 1 = min t.length 513) := ⟨_, .var hh, by simp⟩
                clear hh e9
                go_wp2_with fail
                refine HHd.out.mono ?_
                rintro e w2 ⟨rfl, rfl⟩
                go_wp2_with fail
                go_loopw [6, 7, 9] (fun sv nv kv wr => sv = .int .i64 1 ∧ nv = .bool true ∧ kv = .int .i64 0 ∧ wr = w2) (fun _ _ _ _ => 0)
                case atStart => exact ⟨rfl, rfl, rfl, rfl⟩
                case round =>
                  obtain ⟨rfl, rfl, rfl, hwr⟩ := hrel
                  subst hwr
                  obtain ⟨hp1, hp2⟩ := OwI.putN (w0 := w) (by rw [← HG0.out]; exact HO.out) (by rw [← HG0.out]; exact HBl.out) (by rw [HG0.out]; exact Nat.le_refl _) HS.out.1.symm cc (a := 1) (by omega)
                  have HP1 : Hid (OwI (wr.setCell ⟨g0, cc, none⟩ (.int .i64 (1 : Int))) g0 (.slice (some ⟨g0, 0, none⟩) X.length X.length) (natL (N.set cc 1))) := by
                    have h9 := hp1
                    rw [← HG0.out] at h9
                    exact h9
                  have HP2 : Hid (Below g0 w (wr.setCell ⟨g0, cc, none⟩ (.int .i64 (1 : Int)))) := by
                    have h9 := hp2
                    rw [← HG0.out] at h9
                    exact h9
                  have HS2 : Hid (SzB X K C (N.set cc 1)) := by
                    obtain ⟨t, ht, hl⟩ := HT.out
                    exact szB_set HS.out HCc.out ht hl
                  have HL2 : Hid (N1.sum < (N.set cc 1).sum) := by
                    show _ < _
                    rw [sum_set HNn.out]
                    cases a
                    · rw [(HSm.out rfl).1]
                      omega
                    · have := HLt.out rfl
                      omega
                  clear hp1 hp2
                  go_wp2
                  go_roundw
                  case rel => exact ⟨true, cc + 1, N.set cc 1, hcl, rfl, by go_num, HP1.out, HP2.out, HS2.out, fun _ => HL2.out, fun h => by cases h⟩
                  case measure => simp only [intOf]; omega
              | some hd' =>
                have e9 : headV X C cc = (hd' : Int) := by unfold headV; rw [hh]
                rw [e9] at HHd
                obtain ⟨hdl, hdc, s', hs', hsn'⟩ := headB_some hh
                obtain ⟨ks, hks⟩ : ∃ ks, K[hd']? = some ks := ⟨_, List.getElem?_eq_getElem (by rw [HB.out.len]; exact hdl)⟩
                have hKd : hd' < K.length := (List.getElem?_eq_some_iff.1 hks).1
                obtain ⟨gk, qk, o1, c1, e1, t1, ow1⟩ := HBr.out.atK hks
                simp only [Value.slice.injEq, true_and] at e1
                obtain ⟨rfl, rfl⟩ := e1
                have hkm : ks.length ≤ 9223372036854775807 := by have h9 := ow1.shape; rw [natL_len] at h9; obtain ⟨_, cm, _, h8, h7⟩ := h9; unfold maxLen at h7; omega
                have HHh := hid hh
                have HHc := hid hdc
                have HXh := hid hs'
                have HSn : Hid (s' ≥ 0) := by show s' ≥ 0; omega
                have HKs := hid hks
                clear hh e9 hs' hdc hks hsn' ow1 t1
                go_wp2_with fail
                refine HHd.out.mono ?_
                rintro e w2 ⟨rfl, rfl⟩
                go_wp2_with fail
                go_loopw [6, 7, 9] (fun sv nv kv wr => ∃ (s : Nat) (known : Bool) (k : Nat), k ≤ ks.length ∧ sv = .int .i64 s ∧ nv = .bool known ∧ kv = .int .i64 k ∧ KnB X K C N ks k s known ∧ OwI wr g0 (.slice (some ⟨g0, 0, none⟩) X.length X.length) (natL N) ∧ Below g0 w wr) (fun _ _ kv _ => ks.length - (intOf kv).toNat)
                case atStart => exact ⟨1, true, 0, Nat.zero_le _, rfl, rfl, rfl, knB_start X K C N ks, HO.out, HBl.out⟩
                case round =>
                  clear HO HBl HBr x0 x1 x2 y2 y3 y4 HHd
                  obtain ⟨s, known, k, hkl, rfl, rfl, rfl, hkn, ho, hb⟩ := hrel
                  have HKn := hid hkn
                  have HO := hid ho
                  have HBl := hid hb
                  have HBr : Hid (BdB w0 wr b (.slice oX X.length cX) (.slice (some ⟨gk, 0, none⟩) K.length cK) (.slice (some ⟨gC, 0, none⟩) X.length cC) vs X K C) := HBd.out.later (by rw [← HG0.out]; exact hb)
                  have hs1 : 1 ≤ s ∧ s ≤ 513 := ⟨hkn.1, hkn.2.1⟩
                  obtain ⟨x0, x1, x2⟩ := HBr.out.cells
                  obtain ⟨gk', qk', o2, c2, e2, t1, ow1⟩ := HBr.out.atK HKs.out
                  simp only [Value.slice.injEq, Option.some.injEq, Addr.mk.injEq, and_true, true_and] at e2
                  obtain ⟨rfl, rfl⟩ := e2
                  clear hkn ho hb
                  by_cases hlt : k < ks.length
                  · obtain ⟨x, hx⟩ : ∃ x, ks[k]? = some x := ⟨_, List.getElem?_eq_getElem hlt⟩
                    obtain ⟨g1, d1, e3, _, t3, _⟩ := ow1.nat hx
                    simp only [Value.slice.injEq, true_and] at e3
                    obtain ⟨rfl, rfl⟩ := e3
                    obtain ⟨hxi, hxl2⟩ := HB.out.lt hd' ks HKs.out x (List.mem_of_getElem? hx)
                    obtain ⟨d, hd⟩ : ∃ c, C[x]? = some c := ⟨_, List.getElem?_eq_getElem (by rw [HC.out.len]; exact hxl2)⟩
                    have hdl2 : d < X.length := by have := (HC.out.id x d hd).1; omega
                    obtain ⟨m, hm⟩ : ∃ m, N[d]? = some m := ⟨_, List.getElem?_eq_getElem (by rw [HS.out.1]; exact hdl2)⟩
                    obtain ⟨gC', qC', e4, y2, _⟩ := HBr.out.atC hd
                    simp only [Value.slice.injEq, Option.some.injEq, Addr.mk.injEq, and_true] at e4
                    obtain ⟨rfl, hqc, rfl⟩ := e4
                    have y3 := (OwI.at HO.out (natL_get hm)).1
                    have hm5 : m ≤ 513 := (HS.out.2 d m hm).1
                    have HKn2 := hid (knB_step HS.out HKn.out hx hd hm)
                    have hwr1 : IntKind.i64.wrap ((s : Int) + (m : Int)) = (s : Int) + (m : Int) := IntWalk.i64_in _ ⟨by omega, by omega⟩
                    obtain ⟨s2, hs2⟩ : ∃ z, z = min (s + m) 513 := ⟨_, rfl⟩
                    have hmin : min ((s : Int) + (m : Int)) 513 = (s2 : Int) := by omega
                    rw [← hs2] at HKn2
                    have HO2 := hid (HO.out.later (drawn_below1 wr))
                    have HB2 := hid (below_trans9 HBl.out (drawn_below1 wr) (by rw [HG0.out]; exact Nat.le_refl _))
                    clear hx hd hm hqc ow1 hs2
                    go_wp2
                    go_region
                    by_cases h0 : 0 < m
                    · have hp : decide (0 < m) = true := by simpa using h0
                      rw [hp] at HKn2
                      cases known
                      · go_wp2
                        go_roundw
                        case rel => exact ⟨s2, false, k + 1, hlt, rfl, rfl, by go_num, HKn2.out, HO2.out, HB2.out⟩
                        case measure => simp only [intOf]; omega
                      · go_wp2
                        go_roundw
                        case rel => exact ⟨s2, true, k + 1, hlt, rfl, rfl, by go_num, HKn2.out, HO2.out, HB2.out⟩
                        case measure => simp only [intOf]; omega
                    · have hp : decide (0 < m) = false := by simpa using h0
                      rw [hp, Bool.and_false] at HKn2
                      cases known
                      · go_wp2
                        go_roundw
                        case rel => exact ⟨s2, false, k + 1, hlt, rfl, rfl, by go_num, HKn2.out, HO2.out, HB2.out⟩
                        case measure => simp only [intOf]; omega
                      · go_wp2
                        go_roundw
                        case rel => exact ⟨s2, false, k + 1, hlt, rfl, rfl, by go_num, HKn2.out, HO2.out, HB2.out⟩
                        case measure => simp only [intOf]; omega
                  · have hke : k = ks.length := by omega
                    have hdk : decide ((k : Int) < (ks.length : Int)) = false := by simpa using hlt
                    cases known
                    · have HW : Hid (WtB X K C N cc) := by
                        obtain ⟨x, d, q1, q2, q3⟩ := HKn.out.2.2.2 rfl
                        exact ⟨hd', x, d, s', ks, HHc.out, HXh.out, by have := HSn.out; omega, HKs.out, q1, q2, q3⟩
                      have HN : Hid (a = false → N = N1 ∧ ∀ d, d < cc + 1 → C[d]? = some d → N1[d]? = some 0 → WtB X K C N1 d) := fun ha => ⟨(HSm.out ha).1, fun d hd h1 h2 => by
                        by_cases hdc : d < cc
                        · exact (HSm.out ha).2 d hdc h1 h2
                        · obtain rfl : d = cc := by omega
                          have h9 := HW.out
                          rw [(HSm.out ha).1] at h9
                          exact h9⟩
                      clear hke
                      go_wp2
                      go_roundw
                      case rel => exact ⟨a, cc + 1, N, hcl, rfl, by go_num, HO.out, HBl.out, HS.out, HLt.out, HN.out⟩
                      case measure => simp only [intOf]; omega
                    · have HT : Hid (∃ t, TmK X K C cc t ∧ s = min t.length 513) := by
                        have h9 := HKn.out
                        rw [hke] at h9
                        exact knB_term HHh.out HXh.out HKs.out h9
                      obtain ⟨hp1, hp2⟩ := OwI.putN (w0 := w) (by rw [← HG0.out]; exact HO.out) (by rw [← HG0.out]; exact HBl.out) (by rw [HG0.out]; exact Nat.le_refl _) HS.out.1.symm cc (a := s) (by omega)
                      rw [← HG0.out] at hp1 hp2
                      have HP1 := hid hp1
                      have HP2 := hid hp2
                      have HS2 : Hid (SzB X K C (N.set cc s)) := by
                        obtain ⟨t, ht, hl⟩ := HT.out
                        exact szB_set HS.out HCc.out ht hl
                      have HL2 : Hid (N1.sum < (N.set cc s).sum) := by
                        show _ < _
                        rw [sum_set HNn.out]
                        cases a
                        · rw [(HSm.out rfl).1]
                          omega
                        · have := HLt.out rfl
                          omega
                      obtain ⟨y3, y4⟩ := OwI.at HO.out (natL_get HNn.out)
                      clear hp1 hp2 hke
                      go_wp2
                      go_roundw
                      case rel => exact ⟨true, cc + 1, N.set cc s, hcl, rfl, by go_num, HP1.out, HP2.out, HS2.out, fun _ => HL2.out, fun h => by cases h⟩
                      case measure => simp only [intOf]; omega
          · have hq : ((cc : Int) != (c : Int)) = true := by simp; omega
            have HN : Hid (a = false → N = N1 ∧ ∀ d, d < c + 1 → C[d]? = some d → N1[d]? = some 0 → WtB X K C N1 d) := fun ha => ⟨(HSm.out ha).1, fun d hd h1 h2 => by
              by_cases hdc : d < c
              · exact (HSm.out ha).2 d hdc h1 h2
              · obtain rfl : d = c := by omega
                rw [HCc.out] at h1
                exact absurd (Option.some.inj h1) hcr⟩
            go_wp2
            go_roundw
            case rel => exact ⟨a, c + 1, N, hcl, rfl, by go_num, HO.out, HBl.out, HS.out, HLt.out, HN.out⟩
            case measure => simp only [intOf]; omega
        · have hce : c = X.length := by omega
          have HMm := hid (memC_is HO.out)
          have HSu := hid (szB_sum HS.out)
          have HN : Hid (a = false → ∀ d, C[d]? = some d → N[d]? = some 0 → WtB X K C N d) := fun ha => by
            obtain ⟨q1, q2⟩ := HSm.out ha
            rw [q1]
            exact fun d h1 h2 => q2 d (by rw [hce, ← HS1.out.1]; exact (List.getElem?_eq_some_iff.1 h2).1) h1 h2
          go_wp2
          go_roundw
          case rel => exact ⟨a, N, rfl, HO.out, HBl.out, HS.out, HN.out⟩
          case measure =>
            rw [HMm.out, HM1.out]
            have h9 := HSu.out
            cases a
            · obtain ⟨q1, _⟩ := HSm.out rfl
              rw [q1]
              simp [bolN]
            · have := HLt.out rfl
              simp only [bolN]
              omega

end Go.Proofs.YtelacmijkbgliaaDoor
