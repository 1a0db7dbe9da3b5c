/- Texts of the proof, one behind the other. -/
import Derived.Test.YtelacmijkbgliaaDoorOwn14
import Derived.Test.YtelacmijkbgliaaDoorOwn15
import Derived.Test.YtelacmijkbgliaaDoorOwn3
import Derived.Test.YtelacmijkbgliaaDoorOwn2
import Derived.Shelf.Abstract
import Derived.Test.YtelacmijkbgliaaDoorOwn1
/- The document's board: least and told walked. -/
namespace Go.Proofs.YtelacmijkbgliaaDoor
open Go.RowKit Go.Maps Go.BigFrame

/-- The least variable of a class, of the first places. -/
def lstK (X : List Int) (C : List Nat) (c i : Nat) : Int := ((X.zip C).take i).foldl (lstS c) 0

theorem lstK_at {X : List Int} {C : List Nat} {c i d : Nat} {x : Int} (hx : X[i]? = some x) (hd : C[i]? = some d) : lstK X C c (i + 1) = if d = c ∧ x < 0 ∧ (lstK X C c i = 0 ∨ lstK X C c i < x) then x else lstK X C c i := by
  unfold lstK
  have hz : (X.zip C)[i]? = some (x, d) := List.getElem?_zip_eq_some.2 ⟨hx, hd⟩
  rw [take_get hz, List.foldl_append]
  rfl

set_option maxRecDepth 100000 in
set_option maxHeartbeats 1600000 in
theorem leastB_any {w0 w : World} {b : Nat} {cv kv lv : Value} {vs : List Value} {X : List Int} {K : List (List Nat)} {C : List Nat} (h : BdB w0 w b cv kv lv vs X K C) (hn : C.length = X.length) (hxl : X.length ≤ 1073741824) (c : Nat) :
    Calls Tryd.prog 46 #[.pointer (some ⟨b, 0, none⟩), .int .i64 c] w fun e w' => e = .returned (.int .i64 (lstB X C c)) ∧ w' = w := by
  obtain ⟨⟨oX, cX, rfl⟩, _, oC, cC, rfl⟩ := h.shape
  obtain ⟨x0, x1, x2⟩ := h.cells
  have HB := hid h
  have HNl := hid hn
  have HAll : Hid (∀ k, X.length ≤ k → lstK X C c k = lstB X C c) := fun k hk => by
    unfold lstK lstB
    rw [List.take_of_length_le (by rw [List.length_zip]; omega)]
  clear h hn
  go_enter Tryd.func46, Tryd.ntmps46
  go_wp2
  go_loopw [5, 6] (fun av iv wr => ∃ k : Nat, k ≤ X.length ∧ av = .int .i64 (lstK X C c k) ∧ iv = .int .i64 k ∧ wr = w) (fun _ iv _ => X.length - (intOf iv).toNat)
  case atStart => exact ⟨0, Nat.zero_le _, rfl, rfl, rfl⟩
  case round =>
    obtain ⟨k, hkl, rfl, rfl, hwr⟩ := hrel
    subst hwr
    by_cases hlt : k < X.length
    · obtain ⟨x, hx⟩ : ∃ x, X[k]? = some x := ⟨_, List.getElem?_eq_getElem hlt⟩
      obtain ⟨d, hdk⟩ : ∃ d, C[k]? = some d := ⟨_, List.getElem?_eq_getElem (by rw [HNl.out]; exact hlt)⟩
      obtain ⟨g1, q1, e1, y1⟩ := HB.out.atX hx
      obtain ⟨g2, q2, e2, y2, _⟩ := HB.out.atC hdk
      simp only [Value.slice.injEq, true_and] at e1 e2
      obtain ⟨rfl, rfl⟩ := e1
      obtain ⟨rfl, rfl⟩ := e2
      have hkc : (k : Int) < (C.length : Int) := by rw [HNl.out]; omega
      obtain ⟨a, ha⟩ : ∃ a, a = lstK X C c k := ⟨_, rfl⟩
      have HNx : Hid (lstK X C c (k + 1) = if d = c ∧ x < 0 ∧ (a = 0 ∨ a < x) then x else a) := by rw [ha]; exact lstK_at hx hdk
      rw [← ha]
      clear hx hdk ha
      by_cases hdc : d = c
      · have hq : ((d : Int) == (c : Int)) = true := by simp [hdc]
        by_cases h0 : x < 0
        · have hs : decide (x < 0) = true := by simpa using h0
          by_cases ha0 : a = 0
          · have hz : (a == 0) = true := by simpa using ha0
            have HE : Hid (lstK X C c (k + 1) = x) := by show _ = _; rw [HNx.out, if_pos ⟨hdc, h0, .inl ha0⟩]
            clear ha0
            go_wp2
            go_roundw
            case rel => exact ⟨k + 1, hlt, by rw [HE.out], by go_num, by trivial⟩
            case measure => simp only [intOf]; omega
          · have hz : (a == 0) = false := by simpa using ha0
            by_cases hax : a < x
            · have hg : decide (a < x) = true := by simpa using hax
              have HE : Hid (lstK X C c (k + 1) = x) := by show _ = _; rw [HNx.out, if_pos ⟨hdc, h0, .inr hax⟩]
              go_wp2
              go_roundw
              case rel => exact ⟨k + 1, hlt, by rw [HE.out], by go_num, by trivial⟩
              case measure => simp only [intOf]; omega
            · have hg : decide (a < x) = false := by simpa using hax
              have HE : Hid (lstK X C c (k + 1) = a) := by show _ = _; rw [HNx.out, if_neg (fun h => by rcases h.2.2 with h | h <;> omega)]
              go_wp2
              go_roundw
              case rel => exact ⟨k + 1, hlt, by rw [HE.out], by go_num, by trivial⟩
              case measure => simp only [intOf]; omega
        · have hs : decide (x < 0) = false := by simpa using h0
          have HE : Hid (lstK X C c (k + 1) = a) := by show _ = _; rw [HNx.out, if_neg (fun h => h0 h.2.1)]
          go_wp2
          go_roundw
          case rel => exact ⟨k + 1, hlt, by rw [HE.out], by go_num, by trivial⟩
          case measure => simp only [intOf]; omega
      · have hq : ((d : Int) == (c : Int)) = false := by simp; omega
        have HE : Hid (lstK X C c (k + 1) = a) := by show _ = _; rw [HNx.out, if_neg (fun h => hdc h.1)]
        go_wp2
        go_roundw
        case rel => exact ⟨k + 1, hlt, by rw [HE.out], by go_num, by trivial⟩
        case measure => simp only [intOf]; omega
    · have HE := hid (HAll.out k (by omega))
      go_wp2
      go_ret
      exact ⟨by rw [HE.out]; rfl, rfl⟩

theorem own_oneB {w : World} {c : Int} (h : -9223372036854775808 ≤ c ∧ c ≤ 9223372036854775807) : OwI (w.alloc (.cells #[.int .i64 c] 3)) w.heap.size (.slice (some ⟨w.heap.size, 0, none⟩) 1 1) [c] := by
  refine ⟨fun k x hk => ?_, ⟨rfl, .inr ⟨w.heap.size, 1, #[.int .i64 c], rfl, Nat.le_refl _, heap_alloc_new _ _, Nat.le_refl _, by simp [maxLen], rfl, rfl⟩⟩⟩
  have hk0 : k = 0 := by have := (List.getElem?_eq_some_iff.1 hk).1; simp at this; omega
  subst hk0
  cases hk
  exact h

theorem flat_take {ts : List (List Int)} {k : Nat} {t : List Int} (h : ts[k]? = some t) : (ts.take (k + 1)).flatten = (ts.take k).flatten ++ t := by
  rw [take_get h, List.flatten_append]
  simp

theorem flat_le {ts : List (List Int)} (k : Nat) : (ts.take k).flatten.length ≤ ts.flatten.length := by
  have h : ts.flatten = (ts.take k).flatten ++ (ts.drop k).flatten := by rw [← List.flatten_append, List.take_append_drop]
  rw [h, List.length_append]
  omega

set_option maxRecDepth 100000 in
set_option maxHeartbeats 3200000 in
theorem toldB_any {w0 : World} {sig : List Sy} {b : Nat} {cv kv lv : Value} {vs : List Value} {X : List Int} {K : List (List Nat)} {C : List Nat} (hB : BOk6 sig X K) (hC : ClB X C) (hxl : X.length ≤ 1048576) {c : Nat} {t : List Int} (h : TmK X K C c t) :
    C[c]? = some c → t.length ≤ 512 → ∀ w, BdB w0 w b cv kv lv vs X K C → Calls Tryd.prog 47 #[.pointer (some ⟨b, 0, none⟩), .int .i64 c] w fun e w' => ∃ v, e = .returned v ∧ OwI w' w.heap.size v t ∧ Below w.heap.size w w' := by
  induction h with
  | var hn =>
    rename_i c
    intro hroot hl w hbd
    have HHd := hid (headB_any hbd hC.len (by omega) c)
    have HLe := hid (leastB_any hbd hC.len (by omega) c)
    have e9 : headV X C c = -1 := by unfold headV; rw [hn]
    rw [e9] at HHd
    obtain ⟨L, hL⟩ : ∃ L, L = lstB X C c := ⟨_, rfl⟩
    rw [← hL] at HLe
    have hLb : -9223372036854775808 ≤ L ∧ L ≤ 9223372036854775807 := by
      obtain ⟨i, hi, _⟩ := lstB_of hC hroot hn
      rw [hL]
      exact hbd.cod.1 i _ hi
    have HO : Hid (OwI (w.alloc (.cells #[.int .i64 L] 3)) w.heap.size (.slice (some ⟨w.heap.size, 0, none⟩) 1 1) [L]) := own_oneB hLb
    have HLe2 := hid hL
    clear hn hbd e9 hL
    go_enter Tryd.func47, Tryd.ntmps47
    go_wp2_with fail
    refine HHd.out.mono ?_
    rintro e w1 ⟨rfl, hw1⟩
    have hw9 := hw1.symm
    subst hw9
    clear hw1
    go_wp2_with fail
    refine HLe.out.mono ?_
    rintro e w1 ⟨rfl, hw1⟩
    have hw9 := hw1.symm
    subst hw9
    clear hw1
    go_wp2
    go_ret
    exact ⟨_, rfl, by rw [← HLe2.out]; exact HO.out, below_alloc _⟩
  | app hh hx hk hl ht ih =>
    rename_i c hd' s ks ts
    intro hroot hlen w hbd
    have HHd := hid (headB_any hbd hC.len (by omega) c)
    have e9 : headV X C c = (hd' : Int) := by unfold headV; rw [hh]
    rw [e9] at HHd
    obtain ⟨hdl, hdc, s', hs', hsn'⟩ := headB_some hh
    rw [hx] at hs'
    cases hs'
    obtain ⟨gX, qX, e1, y1⟩ := hbd.atX hx
    obtain ⟨gk, qk, o1, c1, e2, t1, ow1⟩ := hbd.atK hk
    have hkl : hd' < K.length := (List.getElem?_eq_some_iff.1 hk).1
    have hsb := hbd.cod.1 hd' s hx
    subst e1 e2
    obtain ⟨x0, x1, x2⟩ := hbd.cells
    obtain ⟨oC, cC, rfl⟩ := hbd.shape.2.2
    have hCl := hC.len
    rw [hCl] at x2 hbd
    have hkm : ks.length ≤ 9223372036854775807 := by have h9 := ow1.shape; rw [natL_len] at h9; obtain ⟨_, cm, _, h8, h7⟩ := h9; unfold maxLen at h7; omega
    have HBd := hid hbd
    have HT1 := hid t1
    have HOw := hid ow1
    have HX2 := hid x2
    have HX1 := hid x1
    have HKs := hid hk
    have HTl := hid hl
    have HLen := hid hlen
    have HIh : Hid (∀ (k x d : Nat) (t : List Int), ks[k]? = some x → C[x]? = some d → ts[k]? = some t → C[d]? = some d → t.length ≤ 512 → ∀ w, BdB w0 w b (.slice (some ⟨gX, 0, none⟩) X.length qX) (.slice (some ⟨gk, 0, none⟩) K.length qk) (.slice oC X.length cC) vs X K C → Calls Tryd.prog 47 #[.pointer (some ⟨b, 0, none⟩), .int .i64 (d : Int)] w fun e w' => ∃ v, e = .returned v ∧ OwI w' w.heap.size v t ∧ Below w.heap.size w w') := by
      have h9 := ih
      rw [hCl] at h9
      exact h9
    obtain ⟨W1, hW1⟩ : ∃ Z, Z = w.alloc (.cells #[.int .i64 s] 3) := ⟨_, rfl⟩
    have HO1 : Hid (OwI W1 w.heap.size (.slice (some ⟨w.heap.size, 0, none⟩) 1 1) [s]) := by
      rw [hW1]
      exact own_oneB hsb
    have HB1 : Hid (Below w.heap.size w W1) := by rw [hW1]; exact below_alloc _
    have HW1 := hid hW1
    clear hh e9 hdc hk hl hlen ih ht hbd ow1 hsb hW1 hCl hroot
    go_enter Tryd.func47, Tryd.ntmps47
    go_wp2_with fail
    refine HHd.out.mono ?_
    rintro e w1 ⟨rfl, hw1⟩
    have hw9 := hw1.symm
    subst hw9
    clear hw1 HHd
    go_upto_region 5 with fail
    rw [← HW1.out]
    clear HW1 x0 x1 x2 y1
    go_wp2
    go_loopw [6, 7] (fun ov kv wr => ∃ k : Nat, k ≤ ks.length ∧ kv = .int .i64 k ∧ OwI wr w.heap.size ov (s :: (ts.take k).flatten) ∧ Below w.heap.size w wr) (fun _ kv _ => ks.length - (intOf kv).toNat)
    case atStart => exact ⟨0, Nat.zero_le _, rfl, by simpa using HO1.out, HB1.out⟩
    case round =>
      clear HO1 HB1
      obtain ⟨k, hkl2, rfl, ho, hbl⟩ := hrel
      have HO := hid ho
      have HBl := hid hbl
      have HBr := hid (HBd.out.later hbl)
      have x1 := (Kp.of_below hbl).cell _ _ HX1.out
      have t1 := (Kp.of_below hbl).cell _ _ HT1.out
      obtain ⟨oo, oc, rfl, _, hoc⟩ := ho.shape
      unfold maxLen at hoc
      obtain ⟨m, hm⟩ : ∃ m, m = (s :: (ts.take k).flatten).length := ⟨_, rfl⟩
      have hm9 := hid hm
      rw [← hm] at HO ⊢
      have hm5 : m ≤ 513 := by
        have h9 := flat_le (ts := ts) k
        have h8 := HLen.out
        rw [List.length_cons] at hm h8
        omega
      clear ho hbl hm
      by_cases hlt : k < ks.length
      · have hdk : decide ((k : Int) < (ks.length : Int)) = true := by simpa using hlt
        obtain ⟨x, hx⟩ : ∃ x, ks[k]? = some x := ⟨_, List.getElem?_eq_getElem hlt⟩
        obtain ⟨u, hu⟩ : ∃ u, ts[k]? = some u := ⟨_, List.getElem?_eq_getElem (by rw [HTl.out]; exact hlt)⟩
        obtain ⟨g1, d1, e3, _, t3, _⟩ := (HOw.out.later HBl.out).nat hx
        simp only [Value.slice.injEq, true_and] at e3
        obtain ⟨rfl, rfl⟩ := e3
        obtain ⟨hxi, hxl2⟩ := hB.lt hd' ks HKs.out x (List.mem_of_getElem? hx)
        obtain ⟨d, hd⟩ : ∃ c, C[x]? = some c := ⟨_, List.getElem?_eq_getElem (by rw [hC.len]; exact hxl2)⟩
        obtain ⟨gC, qC, e4, y2, _⟩ := HBr.out.atC hd
        simp only [Value.slice.injEq] at e4
        obtain ⟨rfl, hqc, rfl⟩ := e4
        have x2 := (Kp.of_below HBl.out).cell _ _ HX2.out
        have hul : u.length ≤ 512 := by
          have h9 := flat_le (ts := ts) (k + 1)
          rw [flat_take hu, List.length_append] at h9
          have h8 := HLen.out
          rw [List.length_cons] at h8
          omega
        have HTo : Hid (∀ Z, Below wr.heap.size wr Z → Calls Tryd.prog 47 #[.pointer (some ⟨b, 0, none⟩), .int .i64 (d : Int)] Z fun e w' => ∃ v, e = .returned v ∧ OwI w' Z.heap.size v u ∧ Below Z.heap.size Z w') := fun Z hZ => HIh.out k x d u hx hd hu (hC.id x d hd).2 hul Z (HBr.out.later hZ)
        have HFl : Hid (s :: (ts.take (k + 1)).flatten = (s :: (ts.take k).flatten) ++ u) := by show _ = _; rw [flat_take hu]; rfl
        have hkl3 : k < ks.length := hlt
        have hxk := hid hx
        have hdC := hid hd
        clear hx hu hd hqc
        have hK0 : ∀ {Z : World}, Below wr.heap.size wr Z → Z.cell? ⟨b, 1, none⟩ = some (.slice (some ⟨gk, 0, none⟩) K.length qk) ∧ Z.cell? ⟨b, 2, none⟩ = some (.slice (some ⟨gC, 0, none⟩) X.length cC) ∧ Z.cell? ⟨gk, hd', none⟩ = some (.slice (some ⟨g1, 0, none⟩) ks.length c1) ∧ Z.cell? ⟨g1, k, none⟩ = some (.int .i64 (x : Int)) ∧ Z.cell? ⟨gC, x, none⟩ = some (.int .i64 (d : Int)) := fun hZ => ⟨(Kp.of_below hZ).cell _ _ x1, (Kp.of_below hZ).cell _ _ x2, (Kp.of_below hZ).cell _ _ t1, (Kp.of_below hZ).cell _ _ t3, (Kp.of_below hZ).cell _ _ y2⟩
        go_upto_region 8 with fail
        -- R:told
        have hS := hK0 (drawn_below1 wr)
        refine wp_region_held_drew (S := fun w' => w'.cell? ⟨b, 1, none⟩ = some (.slice (some ⟨gk, 0, none⟩) K.length qk) ∧ w'.cell? ⟨b, 2, none⟩ = some (.slice (some ⟨gC, 0, none⟩) X.length cC) ∧ w'.cell? ⟨gk, hd', none⟩ = some (.slice (some ⟨g1, 0, none⟩) ks.length c1) ∧ w'.cell? ⟨g1, k, none⟩ = some (.int .i64 (x : Int)) ∧ w'.cell? ⟨gC, x, none⟩ = some (.int .i64 (d : Int))) (by kernel_rfl) hS (fun _ => ?_)
        obtain ⟨z0, hz0⟩ : ∃ X, X = wr.drew := ⟨_, rfl⟩
        have b0 : Below wr.heap.size wr z0 := by rw [hz0]; exact drawn_below1 _
        rw [← hz0] at hS ⊢
        clear hz0
        refine wpAnyH_take (i := 0) (v := .slice oo m oc) rfl (by kernel_rfl) (by kernel_rfl) (by kernel_rfl) (fun _ _ _ h => h) (Or.inl ⟨by kernel_rfl, fun w' h => by go_simp⟩) hS ?_
        (try simp only [Act.put]); (try simp only [List.setIfInBounds_toArray]); (try simp only [List.set_cons_zero, List.set_cons_succ])
        refine wpAnyH_take (i := 1) (v := .pointer (some ⟨b, 0, none⟩)) rfl (by kernel_rfl) (by kernel_rfl) (by kernel_rfl) (fun _ _ _ h => h) (Or.inl ⟨by kernel_rfl, fun w' h => by go_simp⟩) hS ?_
        (try simp only [Act.put]); (try simp only [List.setIfInBounds_toArray]); (try simp only [List.set_cons_zero, List.set_cons_succ])
        refine wpAnyH_take (i := 2) (v := .pointer (some ⟨b, 0, none⟩)) rfl (by kernel_rfl) (by kernel_rfl) (by kernel_rfl) (fun _ _ _ h => h) (Or.inl ⟨by kernel_rfl, fun w' h => by go_simp⟩) hS ?_
        (try simp only [Act.put]); (try simp only [List.setIfInBounds_toArray]); (try simp only [List.set_cons_zero, List.set_cons_succ])
        refine wpAnyH_take (i := 3) (v := .pointer (some ⟨b, 0, none⟩)) rfl (by kernel_rfl) (by kernel_rfl) (by kernel_rfl) (fun _ _ _ h => h) (Or.inl ⟨by kernel_rfl, fun w' h => by go_simp⟩) hS ?_
        (try simp only [Act.put]); (try simp only [List.setIfInBounds_toArray]); (try simp only [List.set_cons_zero, List.set_cons_succ])
        refine wpAnyH_take (i := 4) (v := .pointer (some ⟨b, 2, none⟩)) rfl (by kernel_rfl) (by kernel_rfl) (by kernel_rfl) (fun _ _ _ h => h) (Or.inl ⟨by kernel_rfl, fun w' h => by go_simp⟩) hS ?_
        (try simp only [Act.put]); (try simp only [List.setIfInBounds_toArray]); (try simp only [List.set_cons_zero, List.set_cons_succ])
        refine wpAnyH_take (i := 5) (v := .slice (some ⟨gC, 0, none⟩) X.length cC) rfl (by kernel_rfl) (by kernel_rfl) (by kernel_rfl) (fun _ _ _ h => h) (Or.inl ⟨by kernel_rfl, fun w' h => by have hh0 := h.2.1; go_simp⟩) hS ?_
        (try simp only [Act.put]); (try simp only [List.setIfInBounds_toArray]); (try simp only [List.set_cons_zero, List.set_cons_succ])
        refine wpAnyH_take (i := 6) (v := .pointer (some ⟨b, 0, none⟩)) rfl (by kernel_rfl) (by kernel_rfl) (by kernel_rfl) (fun _ _ _ h => h) (Or.inl ⟨by kernel_rfl, fun w' h => by go_simp⟩) hS ?_
        (try simp only [Act.put]); (try simp only [List.setIfInBounds_toArray]); (try simp only [List.set_cons_zero, List.set_cons_succ])
        refine wpAnyH_take (i := 7) (v := .pointer (some ⟨b, 0, none⟩)) rfl (by kernel_rfl) (by kernel_rfl) (by kernel_rfl) (fun _ _ _ h => h) (Or.inl ⟨by kernel_rfl, fun w' h => by go_simp⟩) hS ?_
        (try simp only [Act.put]); (try simp only [List.setIfInBounds_toArray]); (try simp only [List.set_cons_zero, List.set_cons_succ])
        refine wpAnyH_take (i := 8) (v := .pointer (some ⟨b, 1, none⟩)) rfl (by kernel_rfl) (by kernel_rfl) (by kernel_rfl) (fun _ _ _ h => h) (Or.inl ⟨by kernel_rfl, fun w' h => by go_simp⟩) hS ?_
        (try simp only [Act.put]); (try simp only [List.setIfInBounds_toArray]); (try simp only [List.set_cons_zero, List.set_cons_succ])
        refine wpAnyH_take (i := 9) (v := .slice (some ⟨gk, 0, none⟩) K.length qk) rfl (by kernel_rfl) (by kernel_rfl) (by kernel_rfl) (fun _ _ _ h => h) (Or.inl ⟨by kernel_rfl, fun w' h => by have hh0 := h.1; go_simp⟩) hS ?_
        (try simp only [Act.put]); (try simp only [List.setIfInBounds_toArray]); (try simp only [List.set_cons_zero, List.set_cons_succ])
        refine wpAnyH_take (i := 10) (v := .int .i64 (hd' : Int)) rfl (by kernel_rfl) (by kernel_rfl) (by kernel_rfl) (fun _ _ _ h => h) (Or.inl ⟨by kernel_rfl, fun w' h => by go_simp⟩) hS ?_
        (try simp only [Act.put]); (try simp only [List.setIfInBounds_toArray]); (try simp only [List.set_cons_zero, List.set_cons_succ])
        refine wpAnyH_take (i := 11) (v := .pointer (some ⟨gk, hd', none⟩)) rfl (by kernel_rfl) (by kernel_rfl) (by kernel_rfl) (fun _ _ _ h => h) (Or.inl ⟨by kernel_rfl, fun w' h => by go_simp⟩) hS ?_
        (try simp only [Act.put]); (try simp only [List.setIfInBounds_toArray]); (try simp only [List.set_cons_zero, List.set_cons_succ])
        refine wpAnyH_take (i := 12) (v := .slice (some ⟨g1, 0, none⟩) ks.length c1) rfl (by kernel_rfl) (by kernel_rfl) (by kernel_rfl) (fun _ _ _ h => h) (Or.inl ⟨by kernel_rfl, fun w' h => by have hh0 := h.2.2.1; go_simp⟩) hS ?_
        (try simp only [Act.put]); (try simp only [List.setIfInBounds_toArray]); (try simp only [List.set_cons_zero, List.set_cons_succ])
        refine wpAnyH_take (i := 13) (v := .int .i64 (k : Int)) rfl (by kernel_rfl) (by kernel_rfl) (by kernel_rfl) (fun _ _ _ h => h) (Or.inl ⟨by kernel_rfl, fun w' h => by go_simp⟩) hS ?_
        (try simp only [Act.put]); (try simp only [List.setIfInBounds_toArray]); (try simp only [List.set_cons_zero, List.set_cons_succ])
        refine wpAnyH_take (i := 14) (v := .pointer (some ⟨g1, k, none⟩)) rfl (by kernel_rfl) (by kernel_rfl) (by kernel_rfl) (fun _ _ _ h => h) (Or.inl ⟨by kernel_rfl, fun w' h => by go_simp⟩) hS ?_
        (try simp only [Act.put]); (try simp only [List.setIfInBounds_toArray]); (try simp only [List.set_cons_zero, List.set_cons_succ])
        refine wpAnyH_take (i := 15) (v := .int .i64 (x : Int)) rfl (by kernel_rfl) (by kernel_rfl) (by kernel_rfl) (fun _ _ _ h => h) (Or.inl ⟨by kernel_rfl, fun w' h => by have hh0 := h.2.2.2.1; go_simp⟩) hS ?_
        (try simp only [Act.put]); (try simp only [List.setIfInBounds_toArray]); (try simp only [List.set_cons_zero, List.set_cons_succ])
        refine wpAnyH_take (i := 16) (v := .pointer (some ⟨gC, x, none⟩)) rfl (by kernel_rfl) (by kernel_rfl) (by kernel_rfl) (fun _ _ _ h => h) (Or.inl ⟨by kernel_rfl, fun w' h => by go_simp⟩) hS ?_
        (try simp only [Act.put]); (try simp only [List.setIfInBounds_toArray]); (try simp only [List.set_cons_zero, List.set_cons_succ])
        refine wpAnyH_take (i := 17) (v := .int .i64 (d : Int)) rfl (by kernel_rfl) (by kernel_rfl) (by kernel_rfl) (fun _ _ _ h => h) (Or.inl ⟨by kernel_rfl, fun w' h => by have hh0 := h.2.2.2.2; go_simp⟩) hS ?_
        (try simp only [Act.put]); (try simp only [List.setIfInBounds_toArray]); (try simp only [List.set_cons_zero, List.set_cons_succ])
        refine wpAnyH_ready (rs := [18]) (by kernel_rfl) (by simp) (AllReadyH.cons rfl (fun Kc hKc => ?_) AllReadyH.nil)
        go_simp
        refine (HTo.out z0 b0).mono ?_
        rintro e z1 ⟨v1, rfl, ov1, hb1⟩
        have b1 := below_step b0 hb1
        have k1 := hK0 b1
        refine hKc.out _ _ k1 (fun _ => ?_)
        clear hKc Kc hS
        have hS := k1
        (try simp only [Act.put]); (try simp only [List.setIfInBounds_toArray]); (try simp only [List.set_cons_zero, List.set_cons_succ])
        obtain ⟨uo, uc, rfl, _, _⟩ := ov1.shape
        obtain ⟨v2, z2, hrun, ho2, hg2, _⟩ := join_intsB 23 (HO.out.later b1) ov1.is (Nat.le_trans HBl.out.size b1.size) (by rw [← hm9.out]; omega)
        have hb9 : Below w.heap.size w z2 := (HBl.out.trans (b1.mono HBl.out.size)).grown hg2 (Nat.le_trans HBl.out.size b1.size) (fun j hj => own_blk HO.out.2 hj)
        have k2 : z2.cell? ⟨b, 1, none⟩ = some (.slice (some ⟨gk, 0, none⟩) K.length qk) ∧ z2.cell? ⟨b, 2, none⟩ = some (.slice (some ⟨gC, 0, none⟩) X.length cC) ∧ z2.cell? ⟨gk, hd', none⟩ = some (.slice (some ⟨g1, 0, none⟩) ks.length c1) ∧ z2.cell? ⟨g1, k, none⟩ = some (.int .i64 (x : Int)) ∧ z2.cell? ⟨gC, x, none⟩ = some (.int .i64 (d : Int)) := ⟨(Kp.of_below hb9).cell _ _ HX1.out, (Kp.of_below hb9).cell _ _ HX2.out, (Kp.of_below hb9).cell _ _ HT1.out, (OwI.at (HOw.out.later hb9) (natL_get hxk.out)).1, (OwI.at (HBd.out.later hb9).cls (natL_get hdC.out)).1⟩
        rw [← HFl.out] at ho2
        have HO2 := hid ho2
        have HB9 := hid hb9
        refine wpAnyH_ready (rs := [19]) (by kernel_rfl) (by simp) (AllReadyH.cons rfl (fun Kc hKc => ?_) AllReadyH.nil)
        refine step_append13 (by kernel_rfl) _ _ 23 rfl _ _ rfl rfl hrun ?_
        refine hKc.out _ _ k2 (fun _ => ?_)
        clear hKc Kc hS
        have hS := k2
        (try simp only [Act.put]); (try simp only [List.setIfInBounds_toArray]); (try simp only [List.set_cons_zero, List.set_cons_succ])
        refine wpAnyH_take (i := 20) (v := v2) rfl (by kernel_rfl) (by kernel_rfl) (by kernel_rfl) (fun _ _ _ h => h) (Or.inl ⟨by kernel_rfl, fun w' h => by go_simp⟩) hS ?_
        (try simp only [Act.put]); (try simp only [List.setIfInBounds_toArray]); (try simp only [List.set_cons_zero, List.set_cons_succ])
        refine wpAnyH_done (by kernel_rfl) ?_ _
        (try simp only [Act.put]); (try simp only [List.getElem_toArray]); (try simp only [List.getElem_cons_succ, List.getElem_cons_zero]); (try simp only [List.setIfInBounds_toArray]); (try simp only [List.set_cons_succ, List.set_cons_zero])
        clear hS k1 k2 hrun ho2 hg2 hb9 hb1 ov1
        go_wp2
        go_roundw
        case rel => exact ⟨k + 1, hlt, by go_num, HO2.out, HB9.out⟩
        case measure => simp only [intOf]; omega
      · have hke : k = ks.length := by omega
        have hdk : decide ((k : Int) < (ks.length : Int)) = false := by simpa using hlt
        have HFl : Hid (s :: (ts.take k).flatten = s :: ts.flatten) := by
          show _ = _
          rw [List.take_of_length_le (by rw [HTl.out]; omega)]
        clear hke
        go_wp2
        go_ret
        exact ⟨_, rfl, by rw [← HFl.out]; exact HO.out, HBl.out⟩

end Go.Proofs.YtelacmijkbgliaaDoor

/- Unify of package unify walked. -/
namespace Go.Proofs.YtelacmijkbgliaaDoor
open Go.RowKit Go.Maps Go.BigFrame

/-- What Unify answers. -/
def UniO (sig : List Sy) (a b : List Int) (w : World) (e : Ending) (w' : World) : Prop :=
  ∃ v, e = .returned (.tuple #[v, .int .i64 (uniE sig a b)]) ∧ OBW w.heap.size w' v (uniL sig a b) ∧ Below w.heap.size w w'

/-- What Unify answers; and where binds unify there are most general ones. -/
def UniM (sig : List Sy) (a b : List Int) (w : World) (e : Ending) (w' : World) : Prop := UniO sig a b w e w' ∧ (twoE sig a b = 0 → Unif sig a b → ∃ g, Mg sig a b g)

theorem uniO_err {sig : List Sy} {a b : List Int} {w w' : World} {c : Int} (he : uniE sig a b = c) (hl : uniL sig a b = []) (hb : Below w.heap.size w w') : UniO sig a b w (.returned (.tuple #[.slice none 0 0, .int .i64 c])) w' :=
  ⟨.slice none 0 0, by rw [he], by rw [hl]; exact OBW.nil _ _, hb⟩

set_option maxRecDepth 100000 in
set_option maxHeartbeats 1600000 in
theorem unifyM_any (sv v1 v2 : Value) (sig : List Sy) (a b : List Int) (w : World) (hs : Sg w sv sig) (h1 : Is w v1 a) (h2 : Is w v2 b) (hT : Tabs w) (hl : a.length + b.length ≤ 4194304) (hsl : sig.length ≤ 9223372036854775807) :
    Calls Tryd.prog 10 #[sv, v1, v2] w (UniM sig a b w) := by
  have HC := hid (checkTerms_any sv v1 v2 sig a b w hs h1 h2 hT (by omega) (by omega))
  have HS := hid hs
  have H1 := hid h1
  have H2 := hid h2
  clear hs h1 h2 hT
  go_enter Tryd.func10, Tryd.ntmps10
  go_wp2_with fail
  refine HC.out.mono ?_
  rintro e w1 ⟨rfl, hb1⟩
  have HB1 := hid hb1
  clear hb1
  by_cases h0 : twoE sig a b = 0
  · obtain ⟨hsg, hra, hrb⟩ := two_right h0
    rw [h0]
    have hk := Kp.of_below HB1.out
    have ha := sigE_ok hsg
    have HSv := hid (solve_any sv v1 v2 sig a b w1 (HS.out.kp hk) (H1.out.kp hk) (H2.out.kp hk) ha hra hrb hl)
    have HA := hid ha
    clear hk ha hsg hra hrb
    go_wp2_with fail
    refine HSv.out.mono ?_
    rintro e w2 ⟨hb2, M, L, ra, rb, hTw, hor⟩
    have HB2 := hid hb2
    have HTw := hid hTw
    clear hb2 hTw
    rcases hor with ⟨rfl, hno⟩ | ⟨rfl, T, into, face, root, rk, cnt, hsl2⟩
    · have HNu := hid (unif_no HA.out HTw.out.ok HTw.out.ta HTw.out.tb hno)
      have HN := hid (uniE_no h0 HNu.out)
      clear hno
      go_wp2
      go_ret2
      exact ⟨uniO_err HN.out.1 HN.out.2 (below_step HB1.out HB2.out), fun _ h => absurd h HNu.out⟩
    · have HMg := hid (mg_of HA.out HTw.out.ok HTw.out.ta HTw.out.tb (sol_of HTw.out hsl2))
      have HY := hid (uniE_yes h0 HMg.out)
      have hLl : L.length ≤ 8388608 := by have := few_keys hsl2.map HTw.out; omega
      have HR := hid (uRise_any HA.out hsl HTw.out hsl2 HB2.out hLl)
      have HK := hid (key_iff HTw.out)
      rw [HK.out] at HR
      have HW : Hid (w1.heap.size ≤ w2.heap.size) := HB2.out.size
      clear hsl2 HTw
      go_wp2_with fail
      refine HR.out.mono ?_
      rintro e w3 ⟨hb3, hor⟩
      have HB3 := hid (below_step HB1.out hb3)
      rcases hor with ⟨he, rfl⟩ | ⟨he, v3, rfl, ho3⟩
      · have HE : Hid (uniE sig a b = 2) := HY.out.1.trans he
        clear he hb3
        go_wp2
        go_ret2
        exact ⟨uniO_err HE.out (HY.out.2.2 (by rw [HE.out]; decide)) HB3.out, fun _ _ => ⟨_, HMg.out⟩⟩
      · have HE : Hid (uniE sig a b = 0) := HY.out.1.trans he
        have HO3 : Hid (OBW w.heap.size w3 v3 (uniL sig a b)) := by rw [HY.out.2.1 HE.out]; exact ho3.mono (Nat.le_trans HB1.out.size HW.out)
        clear he hb3 ho3
        go_wp2
        go_ret2
        exact ⟨⟨v3, by rw [HE.out]; rfl, HO3.out, HB3.out⟩, fun _ _ => ⟨_, HMg.out⟩⟩
  · have HN := hid (uniE_two h0)
    have H0 := hid h0
    generalize twoE sig a b = c at HN h0 ⊢
    go_wp2
    go_ret2
    exact ⟨uniO_err HN.out.1 HN.out.2 HB1.out, fun h _ => absurd h H0.out⟩

theorem unify_any (sv v1 v2 : Value) (sig : List Sy) (a b : List Int) (w : World) (hs : Sg w sv sig) (h1 : Is w v1 a) (h2 : Is w v2 b) (hT : Tabs w) (hl : a.length + b.length ≤ 4194304) (hsl : sig.length ≤ 9223372036854775807) :
    Calls Tryd.prog 10 #[sv, v1, v2] w (UniO sig a b w) := (unifyM_any sv v1 v2 sig a b w hs h1 h2 hT hl hsl).mono fun _ _ h => h.1

end Go.Proofs.YtelacmijkbgliaaDoor

/- What the statements of layer 6 call of their own. -/
namespace Go.Proofs.YtelacmijkbgliaaDoor
open Go.RowKit Go.Maps Go.BigFrame

set_option maxRecDepth 100000 in
theorem sum6_any (w : World) : Calls Tryd.prog 21 #[] w fun e w' => ∃ v', e = .returned v' ∧ Sg w' v' sumS ∧ Below w.heap.size w w' := by
  go_enter Tryd.func21, Tryd.ntmps21
  go_wp2
  go_ret
  refine ⟨_, rfl, sg_lit (p := sumS) (by simp) (by decide) ⟨⟨by decide, by decide, by decide, cell_new rfl, cell_new rfl⟩, ⟨by decide, by decide, by decide, cell_new rfl, cell_new rfl⟩, ⟨by decide, by decide, by decide, cell_new rfl, cell_new rfl⟩, trivial⟩, below_alloc _⟩

set_option maxHeartbeats 400000 in
theorem sameRow6_any (v u : Value) (xs ys : List Int) (w : World) (h : Is w v xs) (h' : Is w u ys) :
    Calls Tryd.prog 13 #[v, u] w fun e w' => e = .returned (.bool (decide (xs = ys))) ∧ ∃ n, w' = w.drewN n := by
  obtain ⟨ao, cap, rfl, hao, hca, hcl⟩ := h.flatI
  obtain ⟨bo, cap', rfl, hbo, hcb, hcl'⟩ := h'.flatI
  clear h h'
  by_cases hl : xs.length = ys.length
  · have hle : ((xs.length : Int) != ys.length) = false := by simp; omega
    go_enter Tryd.func13, Tryd.ntmps13
    go_wp2
    go_loopw [5] (fun i wr => ∃ k : Nat, k ≤ xs.length ∧ i = .int .i64 k ∧ xs.take k = ys.take k ∧ ∃ n, wr = w.drewN n) (fun i _ => xs.length - (intOf i).toNat)
    case atStart => exact ⟨0, Nat.zero_le _, rfl, rfl, 0, rfl⟩
    case round =>
      obtain ⟨k, hk, rfl, ht, n, rfl⟩ := hrel
      have HT : Hid (xs.take k = ys.take k) := ht
      clear ht
      by_cases hlt : k < xs.length
      · obtain ⟨g, off, x, rfl, hx1, hx3⟩ := hcl k hlt
        obtain ⟨g', off', y, rfl, hy1, hy3⟩ := hcl' k (by omega)
        have HX : Hid (xs[k]? = some x) := hx1
        have HY : Hid (ys[k]? = some y) := hy1
        have hlt' : k < ys.length := by omega
        clear hx1 hy1 hcl hcl'
        by_cases hxy : x = y
        · subst hxy
          have hxx : (x != x) = false := by simp
          go_wp2
          go_quiet (fail)
          go_wp2
          go_roundw
          case rel => exact ⟨k + 1, by omega, by go_num, by rw [take_get HX.out, take_get HY.out, HT.out], _, rfl⟩
          case measure => simp [intOf]; omega
        · have hne : (x != y) = true := by rw [bne_iff_ne]; exact hxy
          go_wp2
          go_quiet (fail)
          go_wp2
          go_ret
          exact ⟨ret1b (by rw [eq_comm, decide_eq_false_iff_not]; rintro rfl; have := HX.out.symm.trans HY.out; simp at this; exact hxy this), _, World.drewN_drewN _ _ _⟩
      · have hk' : k = xs.length := by omega
        go_wp2
        go_ret
        refine ⟨ret1b ?_, n, rfl⟩
        have := HT.out
        rw [List.take_of_length_le (by omega), List.take_of_length_le (by omega)] at this
        simp [this]
  · have hle : ((xs.length : Int) != ys.length) = true := by rw [bne_iff_ne]; omega
    go_enter Tryd.func13, Tryd.ntmps13
    go_wp2
    go_ret
    exact ⟨ret1b (by rw [eq_comm, decide_eq_false_iff_not]; rintro rfl; exact hl rfl), 0, rfl⟩

set_option maxRecDepth 100000 in
set_option maxHeartbeats 1600000 in
theorem same6_any (v u : Value) (a : List Bd) (w : World) (h : Bs w v a) (h' : Bs w u a) :
    Calls Tryd.prog 12 #[v, u] w fun e w' => e = .returned (.bool true) ∧ Below w.heap.size w w' := by
  obtain ⟨ao, cap, rfl, hao, hca, _⟩ := Row.flat h
  obtain ⟨bo, cap', rfl, hbo, hcb, _⟩ := Row.flat h'
  unfold maxLen at hca hcb
  have HA := hid h
  have HB := hid h'
  clear h h'
  have hle : ((a.length : Int) != a.length) = false := by simp
  go_enter Tryd.func12, Tryd.ntmps12
  go_wp2
  go_loopw [5] (fun i wr => ∃ k : Nat, k ≤ a.length ∧ i = .int .i64 k ∧ Below w.heap.size w wr) (fun i _ => a.length - (intOf i).toNat)
  case atStart => exact ⟨0, Nat.zero_le _, rfl, Below.refl _ _⟩
  case round =>
    obtain ⟨k, hk, rfl, hbl⟩ := hrel
    have HBl := hid hbl
    by_cases hlt : k < a.length
    · obtain ⟨g, off, x, xa, t, xc, rfl, hm, hc0, hc1, hit, hx1, hx2, hx3⟩ := (HA.out.kp (Kp.of_below hbl)).at hlt
      obtain ⟨g', off', y, ya, t', yc, rfl, hm', hd0, hd1, hjt, hy1, hy2, hy3⟩ := (HB.out.kp (Kp.of_below hbl)).at hlt
      obtain ⟨rfl, rfl⟩ : x = y ∧ t = t' := by rw [hm] at hm'; simpa using hm'
      have hxx : (x != x) = false := by simp
      have HC : Hid (∀ W, Below wr.heap.size wr W → Calls Tryd.prog 13 #[.slice xa t.length xc, .slice ya t.length yc] W fun e w' => e = .returned (.bool true) ∧ Below W.heap.size W w') := fun W hW => by
        refine (sameRow6_any _ _ t t W (hit.kp (Kp.of_below hW)) (hjt.kp (Kp.of_below hW))).mono ?_
        rintro e w' ⟨rfl, n, hw⟩
        exact ⟨by rw [decide_eq_true rfl], drawn_below hw⟩
      clear hm hm' hit hjt hbl
      go_wp2_with fail
      refine region_below (by kernel_rfl) (by kernel_rfl) ?_
      (go_big_quiet_want; go_big_quiet_op; go_big_quiet_on)
      (go_big_quiet_want; go_big_quiet_op; go_big_quiet_on)
      go_big_quiet_want
      refine ⟨.pointer (some ⟨g, off + k * 2, none⟩), fun w' hw' => ?_, ?_⟩
      · unfold Oper.quietAt; go_simp
      simp only [Act.put, List.setIfInBounds_toArray, List.set_cons_zero, List.set_cons_succ]
      go_big_quiet_on
      go_big_quiet_want
      refine ⟨.pointer (some ⟨g, off + k * 2, none⟩), fun w' hw' => ?_, ?_⟩
      · unfold Oper.quietAt; go_simp
      simp only [Act.put, List.setIfInBounds_toArray, List.set_cons_zero, List.set_cons_succ]
      go_big_quiet_on
      go_big_quiet_want
      refine ⟨.int .i64 x, fun w' hw' => ?_, ?_⟩
      · have hh0 := (Kp.of_below hw').cell _ _ hc0; unfold Oper.quietAt; go_simp
      simp only [Act.put, List.setIfInBounds_toArray, List.set_cons_zero, List.set_cons_succ]
      go_big_quiet_on
      (go_big_quiet_want; go_big_quiet_op; go_big_quiet_on)
      (go_big_quiet_want; go_big_quiet_op; go_big_quiet_on)
      go_big_quiet_want
      refine ⟨.pointer (some ⟨g', off' + k * 2, none⟩), fun w' hw' => ?_, ?_⟩
      · unfold Oper.quietAt; go_simp
      simp only [Act.put, List.setIfInBounds_toArray, List.set_cons_zero, List.set_cons_succ]
      go_big_quiet_on
      go_big_quiet_want
      refine ⟨.pointer (some ⟨g', off' + k * 2, none⟩), fun w' hw' => ?_, ?_⟩
      · unfold Oper.quietAt; go_simp
      simp only [Act.put, List.setIfInBounds_toArray, List.set_cons_zero, List.set_cons_succ]
      go_big_quiet_on
      go_big_quiet_want
      refine ⟨.int .i64 x, fun w' hw' => ?_, ?_⟩
      · have hh0 := (Kp.of_below hw').cell _ _ hd0; unfold Oper.quietAt; go_simp
      simp only [Act.put, List.setIfInBounds_toArray, List.set_cons_zero, List.set_cons_succ]
      go_big_quiet_on
      go_big_quiet_want
      refine ⟨.bool false, fun w' hw' => ?_, ?_⟩
      · unfold Oper.quietAt; go_simp
      simp only [Act.put, List.setIfInBounds_toArray, List.set_cons_zero, List.set_cons_succ]
      go_big_quiet_on
      (go_big_quiet_want; go_big_quiet_op; go_big_quiet_on)
      (go_big_quiet_want; go_big_quiet_op; go_big_quiet_on)
      (go_big_quiet_want; go_big_quiet_op; go_big_quiet_on)
      go_big_quiet_want
      refine ⟨.pointer (some ⟨g, off + k * 2, none⟩), fun w' hw' => ?_, ?_⟩
      · unfold Oper.quietAt; go_simp
      simp only [Act.put, List.setIfInBounds_toArray, List.set_cons_zero, List.set_cons_succ]
      go_big_quiet_on
      go_big_quiet_want
      refine ⟨.pointer (some ⟨g, off + k * 2 + 1, none⟩), fun w' hw' => ?_, ?_⟩
      · unfold Oper.quietAt; go_simp
      simp only [Act.put, List.setIfInBounds_toArray, List.set_cons_zero, List.set_cons_succ]
      go_big_quiet_on
      go_big_quiet_want
      refine ⟨.slice xa t.length xc, fun w' hw' => ?_, ?_⟩
      · have hh0 := (Kp.of_below hw').cell _ _ hc1; unfold Oper.quietAt; go_simp
      simp only [Act.put, List.setIfInBounds_toArray, List.set_cons_zero, List.set_cons_succ]
      go_big_quiet_on
      (go_big_quiet_want; go_big_quiet_op; go_big_quiet_on)
      (go_big_quiet_want; go_big_quiet_op; go_big_quiet_on)
      go_big_quiet_want
      refine ⟨.pointer (some ⟨g', off' + k * 2, none⟩), fun w' hw' => ?_, ?_⟩
      · unfold Oper.quietAt; go_simp
      simp only [Act.put, List.setIfInBounds_toArray, List.set_cons_zero, List.set_cons_succ]
      go_big_quiet_on
      go_big_quiet_want
      refine ⟨.pointer (some ⟨g', off' + k * 2 + 1, none⟩), fun w' hw' => ?_, ?_⟩
      · unfold Oper.quietAt; go_simp
      simp only [Act.put, List.setIfInBounds_toArray, List.set_cons_zero, List.set_cons_succ]
      go_big_quiet_on
      go_big_quiet_want
      refine ⟨.slice ya t.length yc, fun w' hw' => ?_, ?_⟩
      · have hh0 := (Kp.of_below hw').cell _ _ hd1; unfold Oper.quietAt; go_simp
      simp only [Act.put, List.setIfInBounds_toArray, List.set_cons_zero, List.set_cons_succ]
      go_big_quiet_on
      go_big_quiet_want
      refine ⟨.bool true, fun w' hw' => ?_, ?_⟩
      · unfold Oper.quietAt; go_simp; exact (HC.out w' hw').mono (fun e w2 ⟨he, hb⟩ => ⟨he, below_step hw' hb⟩)
      simp only [Act.put, List.setIfInBounds_toArray, List.set_cons_zero, List.set_cons_succ]
      go_big_quiet_on
      go_big_quiet_want
      refine ⟨.bool false, fun w' hw' => ?_, ?_⟩
      · unfold Oper.quietAt; go_simp
      simp only [Act.put, List.setIfInBounds_toArray, List.set_cons_zero, List.set_cons_succ]
      go_big_quiet_on
      go_big_quiet_want
      refine ⟨.bool false, fun w' hw' => ?_, ?_⟩
      · unfold Oper.quietAt; go_simp
      simp only [Act.put, List.setIfInBounds_toArray, List.set_cons_zero, List.set_cons_succ]
      go_big_quiet_on
      refine wpQuiet_nil ?_
      intro w2 hb2
      have HB2 := hid (below_step HBl.out hb2)
      clear hb2 HC hc0 hc1 hd0 hd1
      go_wp2
      go_roundw
      case rel => exact ⟨k + 1, by omega, by go_num, HB2.out⟩
      case measure => simp [intOf]; omega
    · go_wp2
      go_ret
      exact ⟨rfl, HBl.out⟩

end Go.Proofs.YtelacmijkbgliaaDoor

/- The examples of layer 6, plainly. -/
namespace Go.Proofs.YtelacmijkbgliaaDoor
open Go.RowKit Go.Maps

/-- No right term begins another one. -/
theorem pre_free {sig : List Sy} {x y r r' : List Int} (hx : rowE sig x = 0) (hy : rowE sig y = 0) (e : x ++ r = y ++ r') : x = y ∧ r = r' := by
  have h1 := first_right hx r
  rw [e, first_right hy r'] at h1
  simp only [Prod.mk.injEq, and_true] at h1
  exact List.append_inj e (by omega)

theorem piece_right {sig : List Sy} {f : Int → Option (List Int)} (hf : ∀ n u, f n = some u → rowE sig u = 0) {c : Int} (hc : rowE sig [c] = 0) : rowE sig (piece f c) = 0 := by
  unfold piece
  split
  · cases h : f (-1 - c) with
    | none => exact hc
    | some u => exact hf _ u h
  · exact hc

theorem gen_of {f g : Int → Option (List Int)} (h : ∀ c, laidL f (piece g c) = piece f c) : ∀ t, laidL f (laidL g t) = laidL f t
  | [] => rfl
  | c :: t => by rw [laid_cons6, laidL_app, gen_of h t, laid_cons6, h]

theorem sumS_sig : sigE sumS = 0 := by kernel_rfl

theorem sumS_ar : ArOk sumS := sigE_ok sumS_sig

theorem one_v1 : rowE sumS [-1] = 0 := by kernel_rfl

theorem one_v2 : rowE sumS [-2] = 0 := by kernel_rfl

theorem one_sv : rowE sumS [1, -2] = 0 := by kernel_rfl

def exG1 (n : Int) : Option (List Int) := if n = 0 then some [1, -2] else if n = 2 then some [1, 1, -2] else none

def exG2 (n : Int) : Option (List Int) := if n = 1 then some [-1] else if n = 2 then some [-1] else none

theorem exG1_piece (c : Int) : piece exG1 c = if c = -1 then [1, -2] else if c = -3 then [1, 1, -2] else [c] := by
  unfold piece exG1
  by_cases h1 : c = -1
  · subst h1; rfl
  · by_cases h2 : c = -3
    · subst h2; rfl
    · rw [if_neg h1, if_neg h2]
      split
      · rw [if_neg (by omega), if_neg (by omega)]; rfl
      · rfl

theorem exG2_piece (c : Int) : piece exG2 c = if c = -2 then [-1] else if c = -3 then [-1] else [c] := by
  unfold piece exG2
  by_cases h1 : c = -2
  · subst h1; rfl
  · by_cases h2 : c = -3
    · subst h2; rfl
    · rw [if_neg h1, if_neg h2]
      split
      · rw [if_neg (by omega), if_neg (by omega)]; rfl
      · rfl

theorem ex1_mg : Mg sumS [2, -1, 1, -1] [2, 1, -2, -3] exG1 := by
  refine ⟨fun n u hu => ?_, by decide, fun f hf he => ?_, fun c d hc hd he => ?_⟩
  · unfold exG1 at hu
    split at hu
    · cases hu; kernel_rfl
    · split at hu
      · cases hu; kernel_rfl
      · cases hu
  · have q2 : piece f 2 = [2] := rfl
    have q1 : piece f 1 = [1] := rfl
    simp only [laid_cons6, q2, q1, List.cons_append, List.nil_append, List.cons.injEq, true_and] at he
    have e0 : laidL f [] = [] := rfl
    rw [e0, List.append_nil, List.append_nil] at he
    have hsv : laidL f [1, -2] = 1 :: piece f (-2) := by simp only [laid_cons6, q1, e0, List.append_nil, List.cons_append, List.nil_append]
    have hr1 := piece_right hf one_v1
    have hr2 := row_laid sumS_ar hf one_sv
    rw [hsv] at hr2
    obtain ⟨h1, h2⟩ := pre_free (r := 1 :: piece f (-1)) (r' := piece f (-3)) hr1 hr2 (by rw [he]; rfl)
    refine gen_of (fun c => ?_)
    rw [exG1_piece]
    split
    · next h => subst h; rw [hsv, h1]
    · split
      · next h =>
        subst h
        have : laidL f [1, 1, -2] = 1 :: laidL f [1, -2] := by rw [laid_cons6 f 1 [1, -2], q1]; rfl
        rw [this, hsv, ← h1, h2]
      · rw [laid_one6]
  · rw [exG1_piece] at he
    split at he
    · cases he
    · split at he
      · cases he
      · simp only [List.cons.injEq, and_true] at he
        omega

theorem ex2_mg : Mg sumS [2, -1, -2] [2, -2, -3] exG2 := by
  refine ⟨fun n u hu => ?_, by decide, fun f hf he => ?_, fun c d hc hd he => ?_⟩
  · unfold exG2 at hu
    split at hu
    · cases hu; kernel_rfl
    · split at hu
      · cases hu; kernel_rfl
      · cases hu
  · have q2 : piece f 2 = [2] := rfl
    simp only [laid_cons6, q2, List.cons_append, List.nil_append, List.cons.injEq, true_and] at he
    have e0 : laidL f [] = [] := rfl
    rw [e0, List.append_nil, List.append_nil] at he
    obtain ⟨h1, h2⟩ := pre_free (piece_right hf one_v1) (piece_right hf one_v2) he
    refine gen_of (fun c => ?_)
    rw [exG2_piece]
    split
    · next h => subst h; rw [laid_one6, h1]
    · split
      · next h => subst h; rw [laid_one6, h1, h2]
      · rw [laid_one6]
  · rw [exG2_piece] at he
    split at he
    · next h => simp only [List.cons.injEq, and_true] at he; omega
    · split at he
      · next h => simp only [List.cons.injEq, and_true] at he; omega
      · simp only [List.cons.injEq, and_true] at he
        omega

theorem mg_self (sig : List Sy) (a : List Int) : Mg sig a a (fun _ => none) := by
  have hp : ∀ c, piece (fun _ => none) c = [c] := fun c => by unfold piece; split <;> rfl
  refine ⟨fun n u hu => (by cases hu), rfl, fun f hf he => gen_of (fun c => by rw [hp, laid_one6]), fun c d hc hd he => ?_⟩
  rw [hp] at he
  simp only [List.cons.injEq, and_true] at he
  omega

theorem ex1_ys : ysV [2, -1, 1, -1] [2, 1, -2, -3] = [0, 1, 2] := by
  have : keyL ((varL [2, -1, 1, -1] ++ varL [2, 1, -2, -3]).map fun x => (x, Value.bool true)) = [0, 1, 2] := by kernel_rfl
  unfold ysV keyS
  rw [this]
  exact List.mergeSort_of_pairwise (by simp)

theorem ex2_ys : ysV [2, -1, -2] [2, -2, -3] = [0, 1, 2] := by
  have : keyL ((varL [2, -1, -2] ++ varL [2, -2, -3]).map fun x => (x, Value.bool true)) = [0, 1, 2] := by kernel_rfl
  unfold ysV keyS
  rw [this]
  exact List.mergeSort_of_pairwise (by simp)

theorem ex1_ok : uniE sumS [2, -1, 1, -1] [2, 1, -2, -3] = 0 ∧ uniL sumS [2, -1, 1, -1] [2, 1, -2, -3] = [(0, [1, -2]), (2, [1, 1, -2])] := by
  obtain ⟨h1, h2, _⟩ := uniE_yes (sig := sumS) (a := [2, -1, 1, -1]) (b := [2, 1, -2, -3]) (by kernel_rfl) ex1_mg
  rw [ex1_ys] at h1 h2
  have e : uniE sumS [2, -1, 1, -1] [2, 1, -2, -3] = 0 := h1.trans (by decide)
  exact ⟨e, (h2 e).trans (by decide)⟩

theorem ex2_ok : uniE sumS [2, -1, -2] [2, -2, -3] = 0 ∧ uniL sumS [2, -1, -2] [2, -2, -3] = [(1, [-1]), (2, [-1])] := by
  obtain ⟨h1, h2, _⟩ := uniE_yes (sig := sumS) (a := [2, -1, -2]) (b := [2, -2, -3]) (by kernel_rfl) ex2_mg
  rw [ex2_ys] at h1 h2
  have e : uniE sumS [2, -1, -2] [2, -2, -3] = 0 := h1.trans (by decide)
  exact ⟨e, (h2 e).trans (by decide)⟩

/-- A term by itself. -/
theorem uni_self {sig : List Sy} {a : List Int} (h : twoE sig a a = 0) : uniE sig a a = 0 ∧ uniL sig a a = [] := by
  have hp : ∀ c, piece (fun _ => none) c = [c] := fun c => by unfold piece; split <;> rfl
  have hk : ∀ n, keptB (fun _ => none) n = true := fun n => by unfold keptB; rw [hp]; simp
  obtain ⟨h1, h2, _⟩ := uniE_yes h (mg_self sig a)
  have e : riseE (fun _ => none) (ysV a a) = 0 := by
    unfold riseE
    rw [if_neg]
    intro h9
    obtain ⟨n, _, hn⟩ := List.any_eq_true.1 h9
    unfold bigB at hn
    rw [hk] at hn
    cases hn
  rw [e] at h1
  refine ⟨h1, (h2 h1).trans ?_⟩
  unfold riseL
  simp [hk]

theorem ex5_ok : uniE sumS [-5] [-5] = 0 ∧ uniL sumS [-5] [-5] = [] := uni_self (by kernel_rfl)

theorem ex3_no : ¬ Unif sumS [-1] [1, -1] := by
  rintro ⟨f, hf, he⟩
  have q1 : piece f 1 = [1] := rfl
  rw [laid_one6, laid_cons6, q1, laid_one6] at he
  have := congrArg List.length he
  simp at this

theorem ex4_no : ¬ Unif sumS [2, 0, -2] [2, 1, -1, -2] := by
  rintro ⟨f, hf, he⟩
  have q2 : piece f 2 = [2] := rfl
  have q1 : piece f 1 = [1] := rfl
  have q0 : piece f 0 = [0] := rfl
  simp only [laid_cons6, q2, q1, q0, List.cons_append, List.nil_append, List.cons.injEq, true_and] at he
  have := he.1
  omega

theorem ex6_yes : Unif sumS [-1] [0] := by
  refine ⟨fun n => if n = 0 then some [0] else none, fun n u hu => ?_, by decide⟩
  simp only at hu
  split at hu
  · cases hu; kernel_rfl
  · cases hu

theorem ex7_no : ¬ Unif sumS [0] [1, 0] := by
  rintro ⟨f, hf, he⟩
  have q1 : piece f 1 = [1] := rfl
  have q0 : piece f 0 = [0] := rfl
  simp only [laid_cons6, q1, q0, List.cons_append, List.nil_append, List.cons.injEq] at he
  have := he.1
  omega

end Go.Proofs.YtelacmijkbgliaaDoor

/- What the binds of Unify do: plain. -/
namespace Go.Proofs.YtelacmijkbgliaaDoor
open Go.RowKit Go.Maps

theorem ysV_rise (a b : List Int) : (ysV a b).Pairwise (· < ·) := by
  unfold ysV keyS
  exact sortI_rise (keyL_nodup _)

end Go.Proofs.YtelacmijkbgliaaDoor

/- An empty row of one's own. -/
namespace Go.Proofs.YtelacmijkbgliaaDoor
open Go.RowKit Go.Maps

theorem empty_row2 {w : World} {base : Nat} (t : TypeId) (hb : base ≤ w.heap.size) : (w.alloc (.cells #[] t)).ownsRow base t 2 (.slice (some ⟨w.heap.size, 0, none⟩) 0 0) 0 [] := by
  refine ⟨rfl, .inr ⟨w.heap.size, 0, #[], rfl, hb, heap_alloc_new _ _, Nat.le_refl _, Nat.zero_le _, rfl, rfl⟩⟩

end Go.Proofs.YtelacmijkbgliaaDoor
