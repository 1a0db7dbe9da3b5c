/- Texts of the proof, one behind the other. -/
import Derived.Test.YtelacmijkbgliaaDoorOwn16
import Derived.Test.YtelacmijkbgliaaDoorOwn3
/- The document's Inner and Unify walked. -/
namespace Go.Proofs.YtelacmijkbgliaaDoor
open Go.RowKit Go.Maps Go.BigFrame

/-- The greatest code below another one, of the first places. -/
def SelK (X : List Int) (last : Int) (i : Nat) (code : Int) (at_ : Nat) : Prop :=
  (code = 0 ∧ ∀ (j : Nat) (x : Int), j < i → X[j]? = some x → ¬ x < last) ∨ (code < 0 ∧ code < last ∧ X[at_]? = some code ∧ ∀ (j : Nat) (x : Int), j < i → X[j]? = some x → x < last → x ≤ code)

/-- The code that the last variable of the first k has. -/
def lastC (Y : List Int) (k : Nat) : Int := if k = 0 then 0 else -1 - (Y[k - 1]?).getD 0

theorem lastC_le {Y : List Int} {k : Nat} (h : ∀ n ∈ Y, 0 ≤ n) : lastC Y k ≤ 0 := by
  unfold lastC
  split
  · omega
  · cases hk : Y[k - 1]? with
    | none => simp
    | some n =>
      have := h n (List.mem_of_getElem? hk)
      simp only [Option.getD_some]
      omega

theorem rise_lt {Y : List Int} (h : Y.Pairwise (· < ·)) {i j : Nat} {x y : Int} (hi : Y[i]? = some x) (hj : Y[j]? = some y) (hij : i < j) : x < y := by
  obtain ⟨hi1, hi2⟩ := List.getElem?_eq_some_iff.1 hi
  obtain ⟨hj1, hj2⟩ := List.getElem?_eq_some_iff.1 hj
  rw [← hi2, ← hj2]
  exact List.pairwise_iff_getElem.1 h i j hi1 hj1 hij

/-- Which codes are below the last one: those of the variables from k on. -/
theorem below_last {X Y : List Int} (hr : Y.Pairwise (· < ·)) (hm : ∀ n, n ∈ Y ↔ 0 ≤ n ∧ -1 - n ∈ X) {k : Nat} (hk : k ≤ Y.length) {x : Int} (hx : x ∈ X) : x < lastC Y k ↔ ∃ j : Nat, k ≤ j ∧ Y[j]? = some (-1 - x) := by
  constructor
  · intro h
    have h0 : x < 0 := by have := lastC_le (k := k) (fun n hn => ((hm n).1 hn).1); omega
    have hy : -1 - x ∈ Y := (hm _).2 ⟨by omega, by rw [show -1 - (-1 - x) = x by omega]; exact hx⟩
    obtain ⟨j, hj⟩ := List.getElem?_of_mem hy
    refine ⟨j, ?_, hj⟩
    by_cases hjk : k ≤ j
    · exact hjk
    · exfalso
      have hk1 : k - 1 < Y.length := by omega
      have h1 : Y[k - 1]? = some Y[k - 1] := List.getElem?_eq_getElem hk1
      unfold lastC at h
      rw [if_neg (by omega), h1, Option.getD_some] at h
      by_cases he : j = k - 1
      · subst he
        rw [h1] at hj
        have := Option.some.inj hj
        omega
      · have := rise_lt hr hj h1 (by omega)
        omega
  · rintro ⟨j, hjk, hj⟩
    have hn := ((hm _).1 (List.mem_of_getElem? hj)).1
    unfold lastC
    by_cases h0 : k = 0
    · rw [if_pos h0]
      omega
    · have hk1 : k - 1 < Y.length := by omega
      have h1 : Y[k - 1]? = some Y[k - 1] := List.getElem?_eq_getElem hk1
      rw [if_neg h0, h1, Option.getD_some]
      have := rise_lt hr h1 hj (by omega)
      omega

/-- What the look through all places finds: nothing more, or the next variable. -/
theorem sel_done {X Y : List Int} (hr : Y.Pairwise (· < ·)) (hm : ∀ n, n ∈ Y ↔ 0 ≤ n ∧ -1 - n ∈ X) {k : Nat} (hk : k ≤ Y.length) {code : Int} {at_ : Nat} (h : SelK X (lastC Y k) X.length code at_) : (code = 0 ∧ k = Y.length) ∨ (code < 0 ∧ X[at_]? = some code ∧ Y[k]? = some (-1 - code) ∧ code = lastC Y (k + 1)) := by
  rcases h with ⟨h0, hn⟩ | ⟨h0, hl, hx, hmax⟩
  · refine .inl ⟨h0, ?_⟩
    by_cases hkl : k < Y.length
    · exfalso
      have h1 : Y[k]? = some Y[k] := List.getElem?_eq_getElem hkl
      obtain ⟨h2, h3⟩ := (hm _).1 (List.mem_of_getElem? h1)
      obtain ⟨j, hj⟩ := List.getElem?_of_mem h3
      refine hn j _ (List.getElem?_eq_some_iff.1 hj).1 hj ((below_last hr hm hk h3).2 ⟨k, Nat.le_refl _, ?_⟩)
      rw [h1]
      congr 1
      omega
    · omega
  · obtain ⟨j, hjk, hj⟩ := (below_last hr hm hk (List.mem_of_getElem? hx)).1 hl
    have hjl := (List.getElem?_eq_some_iff.1 hj).1
    have h1 : Y[k]? = some Y[k] := List.getElem?_eq_getElem (by omega)
    obtain ⟨h2, h3⟩ := (hm _).1 (List.mem_of_getElem? h1)
    obtain ⟨i, hi⟩ := List.getElem?_of_mem h3
    have h4 := hmax i _ (List.getElem?_eq_some_iff.1 hi).1 hi ((below_last hr hm hk h3).2 ⟨k, Nat.le_refl _, by rw [h1]; congr 1; omega⟩)
    have hjk2 : j = k := by
      by_cases he : j = k
      · exact he
      · have := rise_lt hr h1 hj (by omega)
        omega
    subst hjk2
    refine .inr ⟨h0, hx, hj, ?_⟩
    unfold lastC
    rw [if_neg (by omega), Nat.add_sub_cancel, hj, Option.getD_some]
    omega

theorem filter_lessB {X : List Int} {a b : Int} (hab : a < b) (hx : a ∈ X) : (X.filter fun x => decide (x < a)).length < (X.filter fun x => decide (x < b)).length := by
  induction X with
  | nil => cases hx
  | cons y X ih =>
    have le : ∀ l : List Int, (l.filter fun x => decide (x < a)).length ≤ (l.filter fun x => decide (x < b)).length := fun l => by
      induction l with
      | nil => exact Nat.le_refl _
      | cons z l ih =>
        rw [List.filter_cons, List.filter_cons]
        by_cases h1 : z < a
        · rw [if_pos (by simpa using h1), if_pos (by simp; omega), List.length_cons, List.length_cons]
          omega
        · rw [if_neg (by simpa using h1)]
          split
          · rw [List.length_cons]
            omega
          · exact ih
    rw [List.filter_cons, List.filter_cons]
    rcases List.mem_cons.1 hx with rfl | hx
    · rw [if_neg (by simp), if_pos (by simpa using hab), List.length_cons]
      have := le X
      omega
    · have := ih hx
      by_cases h1 : y < a
      · rw [if_pos (by simpa using h1), if_pos (by simp; omega), List.length_cons, List.length_cons]
        omega
      · rw [if_neg (by simpa using h1)]
        split
        · rw [List.length_cons]
          omega
        · exact this

set_option maxRecDepth 100000 in
set_option maxHeartbeats 6400000 in
theorem refInner6_any (sv av bv : Value) (sig : List Sy) (a b : List Int) (w : World) (hs : Sg w sv sig) (ha : Is w av a) (hb : Is w bv b) (h0 : twoE sig a b = 0) (hl : a.length + b.length ≤ 1048576) :
    Calls Tryd.prog 26 #[sv, av, bv] w (UniO sig a b w) := by
  obtain ⟨hsg, hra, hrb⟩ := two_right h0
  have hA := sigE_ok hsg
  have HSd := hid (solvedB_any sv av bv sig a b w hs ha hb hA hra hrb hl)
  have HA := hid hA
  obtain ⟨hB, hta, htb⟩ := board_ok hA hra hrb
  have HB := hid hB
  have HTa := hid hta
  have HTb := hid htb
  have H0 := hid h0
  obtain ⟨Y, hY⟩ : ∃ Y, Y = ysV a b := ⟨_, rfl⟩
  obtain ⟨X, hX⟩ : ∃ X, X = a ++ b := ⟨_, rfl⟩
  have HYr : Hid (Y.Pairwise (· < ·)) := by rw [hY]; exact ysV_rise a b
  have HYm : Hid (∀ n, n ∈ Y ↔ 0 ≤ n ∧ -1 - n ∈ X) := fun n => by rw [hY, hX, ysV_mem, List.mem_append]
  have hxl : X.length ≤ 1048576 := by rw [hX, List.length_append]; exact hl
  have HYe := hid hY
  have HXe := hid hX
  clear hs ha hb hsg hra hrb hA hB hta htb h0 hY hX
  go_enter Tryd.func26, Tryd.ntmps26
  go_wp2_with fail
  refine HSd.out.mono ?_
  rintro e w1 ⟨k, pv, nv, rfl, hb1, hno, hyes⟩
  have B1 := hid hb1
  cases k
  · have HU := hid (uniE_no H0.out (hno rfl))
    clear hb1 hno hyes HSd
    go_wp2
    go_ret2
    exact ⟨.slice none 0 0, by rw [HU.out.1]; rfl, by rw [HU.out.2]; exact OBW.nil _ _, B1.out⟩
  · obtain ⟨hu, rfl, cv, kv, lv, vs, C, N, hsd⟩ := hyes rfl
    obtain ⟨K, hK⟩ : ∃ K, K = boardK sig a b := ⟨_, rfl⟩
    have hbrd := hsd.brd
    have hsol := hsd.sol
    have hsiz := hsd.siz
    have hMg := mg_brd HA.out HB.out hsol HTa.out HTb.out
    unfold boardX boardK at hbrd hsol hsiz
    try unfold boardX boardK at hMg
    unfold boardK at hK
    rw [← hK] at hbrd hsol hsiz hMg
    rw [← HXe.out] at hbrd hsol hsiz hMg
    have hBk : BOk6 sig X K := by have h9 := HB.out; (try unfold boardX boardK at h9); rw [← hK, ← HXe.out] at h9; exact h9
    obtain ⟨G, hG⟩ : ∃ G, G = gB6 X K C := ⟨_, rfl⟩
    rw [← hG] at hMg
    obtain ⟨u1, u2, u3⟩ := uniE_yes H0.out hMg
    rw [← HYe.out] at u1 u2
    have HU1 := hid u1
    have HU2 := hid u2
    have HU3 := hid u3
    have HPc : Hid (∀ (i c : Nat) (x : Int) (t : List Int), X[i]? = some x → x < 0 → C[i]? = some c → TmK X K C c t → piece G x = t ∧ (keptB G (-1 - x) = true ↔ headB X C c = none ∧ lstB X C c = x)) := fun i c x t hi hx hc ht => by rw [hG]; exact gB6_piece hBk hsol hi hx hc ht
    have HBk := hid hBk
    have HSol := hid hsol
    have HSiz := hid hsiz
    have HPos := hid hsd.pos
    obtain ⟨d, hd⟩ : ∃ d, d = w.heap.size := ⟨_, rfl⟩
    rw [← hd] at hbrd ⊢
    have HD := hid hd
    have HNum := hid hsd.num
    obtain ⟨no, nc, rfl, _, _⟩ := hsd.num.shape
    rw [natL_len, hsiz.1] at HNum
    have HBd := hid hbrd
    obtain ⟨⟨oX, cX, rfl⟩, _, oC, cC, rfl⟩ := hbrd.shape
    have hCl : C.length = X.length := hsol.ok.len
    rw [hCl] at HBd
    obtain ⟨W1, hW1⟩ : ∃ Z, Z = w1.alloc (.cells #[] 31) := ⟨_, rfl⟩
    have BW : Hid (Below w1.heap.size w1 W1) := by rw [hW1]; exact below_alloc _
    have HO0 : Hid (OBW w1.heap.size W1 (.slice (some ⟨w1.heap.size, 0, none⟩) 0 0) []) := ⟨[], rfl, fun i u b h => by simp at h, by rw [hW1]; exact empty_row2 31 (Nat.le_refl _)⟩
    have HW1 := hid hW1
    have HCl := hid hCl
    have HYl : Hid (Y.length ≤ 1048576) := by
      have h1 : (Y.map fun n => -1 - n).Nodup := by
        rw [List.nodup_iff_pairwise_ne, List.pairwise_map]
        exact HYr.out.imp (fun h h9 => by omega)
      have h2 := nodup_len h1 (l' := X) (fun x hx => by
        obtain ⟨n, hn, rfl⟩ := List.mem_map.1 hx
        exact ((HYm.out n).1 hn).2)
      rw [List.length_map] at h2
      show _ ≤ _
      omega
    rw [natL_len, hsiz.1]
    clear hb1 hno hyes HSd hu hsd hbrd hsol hsiz hMg hBk hG u1 u2 u3 hd hK hCl hW1
    go_upto_region 5 with fail
    rw [← HW1.out]
    clear HW1
    go_wp2
    go_loopw [11, 12] (fun ov lv wr => ∃ k : Nat, k ≤ Y.length ∧ lv = .int .i64 (lastC Y k) ∧ (Y.take k).any (bigB G) = false ∧ OBW w1.heap.size wr ov (riseL G (Y.take k)) ∧ Below w1.heap.size w1 wr) (fun _ lv _ => (X.filter fun x => decide (x < intOf lv)).length)
    case atStart => exact ⟨0, Nat.zero_le _, rfl, rfl, HO0.out, BW.out⟩
    case round =>
      clear HO0 BW
      obtain ⟨k, hk, rfl, hbig, hob, hbl⟩ := hrel
      have HBig := hid hbig
      have HOb := hid hob
      have HBl := hid hbl
      have HBr := hid (HBd.out.later hbl)
      obtain ⟨x0, x1, x2⟩ := HBr.out.cells
      obtain ⟨last, hlast⟩ : ∃ z, z = lastC Y k := ⟨_, rfl⟩
      have HLa := hid hlast
      rw [← hlast]
      clear hbig hob hbl hlast
      go_wp2
      go_loopw [13, 14, 15] (fun cv av iv wz => ∃ (i at_ : Nat) (code : Int), i ≤ X.length ∧ cv = .int .i64 code ∧ av = .int .i64 at_ ∧ iv = .int .i64 i ∧ wz = wr ∧ SelK X last i code at_) (fun _ _ iv _ => X.length - (intOf iv).toNat)
      case atStart => exact ⟨0, 0, 0, Nat.zero_le _, rfl, rfl, rfl, rfl, .inl ⟨rfl, fun j x hj => by omega⟩⟩
      case round =>
        obtain ⟨i, at_, code, hi, rfl, rfl, rfl, hwz, hsel⟩ := hrel
        subst hwz
        have HSel := hid hsel
        clear hsel
        by_cases hil : i < X.length
        · obtain ⟨x, hx⟩ : ∃ x, X[i]? = some x := ⟨_, List.getElem?_eq_getElem hil⟩
          obtain ⟨gX, qX, e1, y1⟩ := HBr.out.atX hx
          simp only [Value.slice.injEq, true_and] at e1
          obtain ⟨rfl, rfl⟩ := e1
          have HXi := hid hx
          clear hx
          have nw : SelK X last i code at_ → ∀ (c' : Int) (a' : Nat), ((x < last ∧ (code = 0 ∨ code < x) ∧ c' = x ∧ a' = i) ∨ (¬ (x < last ∧ (code = 0 ∨ code < x)) ∧ c' = code ∧ a' = at_)) → last ≤ 0 → SelK X last (i + 1) c' a' := fun hs c' a' h hl0 => by
            have ext : ∀ (j : Nat) (y : Int), j < i + 1 → X[j]? = some y → (j < i ∨ y = x) := fun j y hj hy => by
              by_cases hji : j < i
              · exact .inl hji
              · obtain rfl : j = i := by omega
                rw [HXi.out] at hy
                exact .inr (Option.some.inj hy).symm
            rcases h with ⟨h1, h2, rfl, rfl⟩ | ⟨h1, rfl, rfl⟩
            · refine .inr ⟨by omega, h1, HXi.out, fun j y hj hy hyl => ?_⟩
              rcases ext j y hj hy with hj | rfl
              · rcases hs with ⟨hc0, hn⟩ | ⟨hc0, _, _, hmax⟩
                · exact absurd hyl (hn j y hj hy)
                · have := hmax j y hj hy hyl
                  omega
              · exact Int.le_refl _
            · rcases hs with ⟨hc0, hn⟩ | ⟨hc0, hcl, hca, hmax⟩
              · refine .inl ⟨hc0, fun j y hj hy => ?_⟩
                rcases ext j y hj hy with hj | rfl
                · exact hn j y hj hy
                · exact fun hyl => h1 ⟨hyl, .inl hc0⟩
              · refine .inr ⟨hc0, hcl, hca, fun j y hj hy hyl => ?_⟩
                rcases ext j y hj hy with hj | rfl
                · exact hmax j y hj hy hyl
                · by_cases h9 : c' < y
                  · exact absurd ⟨hyl, .inr h9⟩ h1
                  · omega
          have hl0 : last ≤ 0 := by rw [HLa.out]; exact lastC_le (fun n hn => ((HYm.out n).1 hn).1)
          have HNw := hid (fun c' a' h => nw HSel.out c' a' h hl0)
          clear nw
          by_cases hxl2 : x < last
          · have hd1 : decide (x < last) = true := by simpa using hxl2
            by_cases hc0 : code = 0
            · have hz : (code == 0) = true := by simpa using hc0
              have HN := hid (HNw.out x i (.inl ⟨hxl2, .inl hc0, rfl, rfl⟩))
              clear hc0
              go_wp2
              go_roundw
              case rel => exact ⟨i + 1, i, x, hil, rfl, rfl, by go_num, by trivial, HN.out⟩
              case measure => simp only [intOf]; omega
            · have hz : (code == 0) = false := by simpa using hc0
              by_cases hcx : code < x
              · have hg : decide (code < x) = true := by simpa using hcx
                have HN := hid (HNw.out x i (.inl ⟨hxl2, .inr hcx, rfl, rfl⟩))
                go_wp2
                go_roundw
                case rel => exact ⟨i + 1, i, x, hil, rfl, rfl, by go_num, by trivial, HN.out⟩
                case measure => simp only [intOf]; omega
              · have hg : decide (code < x) = false := by simpa using hcx
                have HN := hid (HNw.out code at_ (.inr ⟨fun h => by rcases h.2 with h | h <;> omega, rfl, rfl⟩))
                go_wp2
                go_roundw
                case rel => exact ⟨i + 1, at_, code, hil, rfl, rfl, by go_num, by trivial, HN.out⟩
                case measure => simp only [intOf]; omega
          · have hd1 : decide (x < last) = false := by simpa using hxl2
            have HN := hid (HNw.out code at_ (.inr ⟨fun h => hxl2 h.1, rfl, rfl⟩))
            go_wp2
            go_roundw
            case rel => exact ⟨i + 1, at_, code, hil, rfl, rfl, by go_num, by trivial, HN.out⟩
            case measure => simp only [intOf]; omega
        · have hie : i = X.length := by omega
          have hsd := sel_done HYr.out HYm.out hk (by have h9 := HSel.out; rw [hie, HLa.out] at h9; exact h9)
          have HLast := hid (show code = 0 ∨ code < last by rcases HSel.out with h | h; exact .inl h.1; exact .inr h.2.1)
          clear hie
          rcases hsd with ⟨rfl, hke⟩ | ⟨hc0, hca, hyk, hnl⟩
          · have HE : Hid (uniE sig a b = 0 ∧ uniL sig a b = riseL G (Y.take k)) := by
              have h1 : uniE sig a b = 0 := by
                rw [HU1.out]
                unfold riseE
                have h9 := HBig.out
                rw [hke, List.take_length] at h9
                rw [h9]
                rfl
              refine ⟨h1, ?_⟩
              rw [HU2.out h1, hke, List.take_length]
            have HBw := hid (below_step B1.out HBl.out)
            clear hke
            go_wp2
            go_ret2
            exact ⟨_, by rw [HE.out.1]; rfl, by rw [HE.out.2]; exact HOb.out.mono B1.out.size, HBw.out⟩
          · have hcz : (code == 0) = false := by rw [beq_eq_false_iff_ne]; omega
            have hal : at_ < X.length := (List.getElem?_eq_some_iff.1 hca).1
            obtain ⟨c, hc⟩ : ∃ c, C[at_]? = some c := ⟨_, List.getElem?_eq_getElem (by rw [HCl.out]; exact hal)⟩
            obtain ⟨n, hn, hn0⟩ := HPos.out at_ c hc
            obtain ⟨hn5, hn6⟩ := HSiz.out.2 c n hn
            obtain ⟨hcr, t, ht, hnt⟩ := hn6 hn0
            obtain ⟨hpc, hkp⟩ := HPc.out at_ c code t hca hc0 hc ht
            obtain ⟨gC, qC, e2, y2, _⟩ := HBr.out.atC hc
            simp only [Value.slice.injEq] at e2
            obtain ⟨rfl, hqc, rfl⟩ := e2
            have hcl : c < X.length := by rw [← HSiz.out.1]; exact (List.getElem?_eq_some_iff.1 hn).1
            obtain ⟨kb, hkb⟩ : ∃ z, z = keptB G (-1 - code) := ⟨_, rfl⟩
            have HHd := hid (headB_any HBr.out HCl.out (by omega) c)
            have HLe := hid (leastB_any HBr.out HCl.out (by omega) c)
            have HKp := hid hkp
            have HKb := hid hkb
            have HCa := hid hca
            have HYk := hid hyk
            have HNl := hid hnl
            have HCc := hid hcr
            have HTm := hid ht
            have HNt := hid hnt
            have HPi := hid hpc
            have HNn := hid hn
            have HN0 := hid hn0
            have hkY : k < Y.length := (List.getElem?_eq_some_iff.1 hyk).1
            have HXm := hid (List.mem_of_getElem? hca)
            have hcb : -9223372036854775808 ≤ code ∧ code ≤ 9223372036854775807 := HBr.out.cod.1 at_ code hca
            clear hca hyk hnl hc hcr ht hnt hpc hkp hkb hn hqc
            go_upto_region 18 with fail
            go_cut [90] from 80 to 90 (fun x wx => x = .bool kb ∧ wx = wr)
            case first =>
              cases hh : headB X C c with
              | none =>
                have e9 : headV X C c = -1 := by unfold headV; rw [hh]
                rw [e9] at HHd
                obtain ⟨L, hL⟩ : ∃ L, L = lstB X C c := ⟨_, rfl⟩
                rw [← hL] at HLe
                have HK2 : Hid (kb = (L == code)) := by
                  show _ = _
                  by_cases hlc : L = code
                  · rw [hlc]
                    rw [HKb.out, (HKp.out).2 ⟨hh, by rw [← hL]; exact hlc⟩]
                    simp
                  · rw [HKb.out]
                    cases hq : keptB G (-1 - code) with
                    | true => exact absurd (by rw [hL]; exact (HKp.out.1 hq).2) hlc
                    | false => simp [hlc]
                clear hh e9 hL
                go_wp2_with (first
                  | (go_at_call 45; refine HHd.out.mono ?_; rintro e w9 ⟨rfl, hw9⟩; have hw8 := hw9.symm; subst hw8; clear hw9)
                  | (go_at_call 46; refine HLe.out.mono ?_; rintro e w9 ⟨rfl, hw9⟩; have hw8 := hw9.symm; subst hw8; clear hw9))
                go_meet
                case rel => exact ⟨by rw [HK2.out], rfl⟩
              | some hd' =>
                have e9 : headV X C c = (hd' : Int) := by unfold headV; rw [hh]
                rw [e9] at HHd
                have HK2 : Hid (kb = false) := by
                  show _ = _
                  rw [HKb.out]
                  cases hq : keptB G (-1 - code) with
                  | true =>
                    have h9 := (HKp.out.1 hq).1
                    rw [hh] at h9
                    cases h9
                  | false => rfl
                clear hh e9
                go_wp2_with (first
                  | (go_at_call 45; refine HHd.out.mono ?_; rintro e w9 ⟨rfl, hw9⟩; have hw8 := hw9.symm; subst hw8; clear hw9))
                go_meet
                case rel => exact ⟨by rw [HK2.out], rfl⟩
            obtain ⟨rfl, hwx9⟩ := hcut
            have hwx8 := hwx9.symm
            subst hwx8
            clear hwx9 HHd HLe
            have HMs : Hid ((X.filter fun x => decide (x < code)).length < (X.filter fun x => decide (x < last)).length) := by
              have h9 : code < last := by rcases HLast.out with h | h <;> omega
              exact filter_lessB h9 HXm.out
            by_cases hk1 : kb = true
            · subst hk1
              have HR : Hid (riseL G (Y.take (k + 1)) = riseL G (Y.take k)) := riseL_kept HYk.out HKb.out.symm
              have HG : Hid ((Y.take (k + 1)).any (bigB G) = false) := big_step HYk.out HBig.out (by unfold bigB; rw [← HKb.out]; rfl)
              go_wp2
              go_roundw
              case rel => exact ⟨k + 1, hkY, by rw [← HNl.out], HG.out, by rw [HR.out]; exact HOb.out, HBl.out⟩
              case measure => simp only [intOf]; exact HMs.out
            · obtain rfl : kb = false := by simpa using hk1
              clear hk1
              have hN1 := HNum.out.later HBl.out
              obtain ⟨gN, qN, y, rfl, hyN, hcN, _, _⟩ := hN1.is.at (k := c) (by rw [natL_len, HSiz.out.1]; exact hcl)
              have e7 := natL_get HNn.out
              rw [e7] at hyN
              obtain rfl := (Option.some.inj hyN).symm
              have hpl : (piece G (-1 - (-1 - code))).length = t.length := by rw [show -1 - (-1 - code) = code by omega, HPi.out]
              by_cases hbg : 512 < n
              · have hd5 : decide ((n : Int) > 512) = true := by simp; omega
                have HE : Hid (uniE sig a b = 2) := by
                  show _ = _
                  rw [HU1.out]
                  refine big_here HYk.out ?_
                  unfold bigB
                  rw [← HKb.out, hpl]
                  have := HNt.out
                  simp
                  omega
                have HL3 := hid (HU3.out (by rw [HE.out]; decide))
                have HBw := hid (below_step B1.out HBl.out)
                clear hbg e7 hyN hN1 hpl
                go_wp2
                go_ret2
                exact ⟨.slice none 0 0, by rw [HE.out]; rfl, by rw [HL3.out]; exact OBW.nil _ _, HBw.out⟩
              · have hd5 : decide ((n : Int) > 512) = false := by simp; omega
                have htl : t.length ≤ 512 := by have := HNt.out; omega
                have HG : Hid ((Y.take (k + 1)).any (bigB G) = false) := big_step HYk.out HBig.out (by unfold bigB; rw [← HKb.out, hpl]; simp; omega)
                have HR : Hid (riseL G (Y.take (k + 1)) = riseL G (Y.take k) ++ [(-1 - code, t)]) := by
                  show _ = _
                  rw [riseL_step HYk.out HKb.out.symm, show -1 - (-1 - code) = code by omega, HPi.out]
                have HLn : Hid ((riseL G (Y.take k)).length ≤ k) := Nat.le_trans (riseL_len G _) (by rw [List.length_take]; omega)
                have hbd9 := HBr.out
                rw [← HCl.out] at hbd9
                have HTo := hid (toldB_any HBk.out HSol.out.ok hxl HTm.out HCc.out htl wr hbd9)
                clear hbg e7 hyN hN1 hpl hbd9
                go_wp2_with fail
                refine HTo.out.mono ?_
                rintro e w5 ⟨v5, rfl, ho5, hb5⟩
                obtain ⟨a5, c5, hv5, _⟩ := ho5.shape
                subst hv5
                have hs3 : w1.heap.size ≤ wr.heap.size := HBl.out.size
                obtain ⟨v6, w6, hr6, ho6, hg6, hj6⟩ := OBW.snoc 25 (x := -1 - code) (t := t) (HOb.out.later hb5) (by have := hb5.size; omega) ⟨ho5.mono hs3, by omega, by omega, by show t.length * 8 ≤ 140737488351232; omega⟩ (by have h1 := HLn.out; have h2 := HYl.out; omega)
                have HR6 := hid hr6
                have HO6 := hid ho6
                have hba := below_step hb5 (below_alloc (w := w5) (.cells #[.int .i64 (-1 - code), .slice a5 t.length c5] 31))
                have hBa := below_step HBl.out hba
                have HB6 : Hid (Below w1.heap.size w1 w6) := hBa.grown hg6 hBa.size (fun j hj => (hj6 j hj).1)
                clear hr6 ho6 hg6 hj6 hba hBa ho5 hb5 HTo
                go_wp2_with (first
                  | (at_builtin; refine wpList_append_run rfl _ _ _ rfl _ _ rfl rfl HR6.out ?_))
                go_roundw
                case rel => exact ⟨k + 1, hkY, by rw [← HNl.out], HG.out, by rw [HR.out]; exact HO6.out, HB6.out⟩
                case measure => simp only [intOf]; exact HMs.out

end Go.Proofs.YtelacmijkbgliaaDoor

/- The examples of layer 6 come out true. -/
namespace Go.Proofs.YtelacmijkbgliaaDoor
open Go.RowKit Go.Maps Go.BigFrame

set_option maxRecDepth 100000 in
theorem u6_1 (w : World) (sv : Value) (hs : Sg w sv sumS) (hT : Tabs w) : Calls Tryd.prog 10 #[sv, .slice (some ⟨w.heap.size, 0, none⟩) 4 4, .slice (some ⟨w.heap.size + 1, 0, none⟩) 4 4] ((w.alloc (Obj.cells #[Value.int IntKind.i64 2, Value.int IntKind.i64 (-1), Value.int IntKind.i64 1, Value.int IntKind.i64 (-1)] 3)).alloc (Obj.cells #[Value.int IntKind.i64 2, Value.int IntKind.i64 1, Value.int IntKind.i64 (-2), Value.int IntKind.i64 (-3)] 3))
    fun e w' => ∃ ao cap, e = .returned (.tuple #[.slice ao 2 cap, .int .i64 0]) ∧ Bs w' (.slice ao 2 cap) [(0, [1, -2]), (2, [1, 1, -2])] ∧ Below w.heap.size w w' := by
  have hB : Below w.heap.size w ((w.alloc (Obj.cells #[Value.int IntKind.i64 2, Value.int IntKind.i64 (-1), Value.int IntKind.i64 1, Value.int IntKind.i64 (-1)] 3)).alloc (Obj.cells #[Value.int IntKind.i64 2, Value.int IntKind.i64 1, Value.int IntKind.i64 (-2), Value.int IntKind.i64 (-3)] 3)) := (below_step (below_alloc _) (below_alloc _))
  obtain ⟨W, hW⟩ : ∃ W, W = ((w.alloc (Obj.cells #[Value.int IntKind.i64 2, Value.int IntKind.i64 (-1), Value.int IntKind.i64 1, Value.int IntKind.i64 (-1)] 3)).alloc (Obj.cells #[Value.int IntKind.i64 2, Value.int IntKind.i64 1, Value.int IntKind.i64 (-2), Value.int IntKind.i64 (-3)] 3)) := ⟨_, rfl⟩
  have hsz : W.heap.size = w.heap.size + 2 := by rw [hW]; simp
  have i1 : Is W (.slice (some ⟨w.heap.size, 0, none⟩) 4 4) [2, -1, 1, -1] := by
    refine is_lit (p := [2, -1, 1, -1]) (by omega) (by decide) ⟨ei (by omega) (by omega) ?_, ei (by omega) (by omega) ?_, ei (by omega) (by omega) ?_, ei (by omega) (by omega) ?_, trivial⟩ <;> (rw [hW]; repeat (first | (refine cell_newg ?_ rfl; simp; done) | refine cell_old ?_))
  have i2 : Is W (.slice (some ⟨w.heap.size + 1, 0, none⟩) 4 4) [2, 1, -2, -3] := by
    refine is_lit (p := [2, 1, -2, -3]) (by omega) (by decide) ⟨ei (by omega) (by omega) ?_, ei (by omega) (by omega) ?_, ei (by omega) (by omega) ?_, ei (by omega) (by omega) ?_, trivial⟩ <;> (rw [hW]; repeat (first | (refine cell_newg ?_ rfl; simp; done) | refine cell_old ?_))
  rw [← hW] at hB ⊢
  refine (unify_any sv _ _ sumS [2, -1, 1, -1] [2, 1, -2, -3] W (hs.kp (Kp.of_below hB)) i1 i2 (hT.below hB) (by decide) (by decide)).mono ?_
  rintro e w' ⟨v, rfl, ho, hb⟩
  have hx := ex1_ok
  rw [hx.2] at ho
  obtain ⟨ao, cap, hv, _⟩ := Row.flat ho.bs
  subst hv
  exact ⟨ao, cap, by rw [hx.1]; rfl, ho.bs, below_step hB hb⟩

set_option maxRecDepth 100000 in
theorem u6_2 (w : World) (sv : Value) (hs : Sg w sv sumS) (hT : Tabs w) : Calls Tryd.prog 10 #[sv, .slice (some ⟨w.heap.size, 0, none⟩) 3 3, .slice (some ⟨w.heap.size + 1, 0, none⟩) 3 3] ((w.alloc (Obj.cells #[Value.int IntKind.i64 2, Value.int IntKind.i64 (-1), Value.int IntKind.i64 (-2)] 3)).alloc (Obj.cells #[Value.int IntKind.i64 2, Value.int IntKind.i64 (-2), Value.int IntKind.i64 (-3)] 3))
    fun e w' => ∃ ao cap, e = .returned (.tuple #[.slice ao 2 cap, .int .i64 0]) ∧ Bs w' (.slice ao 2 cap) [(1, [-1]), (2, [-1])] ∧ Below w.heap.size w w' := by
  have hB : Below w.heap.size w ((w.alloc (Obj.cells #[Value.int IntKind.i64 2, Value.int IntKind.i64 (-1), Value.int IntKind.i64 (-2)] 3)).alloc (Obj.cells #[Value.int IntKind.i64 2, Value.int IntKind.i64 (-2), Value.int IntKind.i64 (-3)] 3)) := (below_step (below_alloc _) (below_alloc _))
  obtain ⟨W, hW⟩ : ∃ W, W = ((w.alloc (Obj.cells #[Value.int IntKind.i64 2, Value.int IntKind.i64 (-1), Value.int IntKind.i64 (-2)] 3)).alloc (Obj.cells #[Value.int IntKind.i64 2, Value.int IntKind.i64 (-2), Value.int IntKind.i64 (-3)] 3)) := ⟨_, rfl⟩
  have hsz : W.heap.size = w.heap.size + 2 := by rw [hW]; simp
  have i1 : Is W (.slice (some ⟨w.heap.size, 0, none⟩) 3 3) [2, -1, -2] := by
    refine is_lit (p := [2, -1, -2]) (by omega) (by decide) ⟨ei (by omega) (by omega) ?_, ei (by omega) (by omega) ?_, ei (by omega) (by omega) ?_, trivial⟩ <;> (rw [hW]; repeat (first | (refine cell_newg ?_ rfl; simp; done) | refine cell_old ?_))
  have i2 : Is W (.slice (some ⟨w.heap.size + 1, 0, none⟩) 3 3) [2, -2, -3] := by
    refine is_lit (p := [2, -2, -3]) (by omega) (by decide) ⟨ei (by omega) (by omega) ?_, ei (by omega) (by omega) ?_, ei (by omega) (by omega) ?_, trivial⟩ <;> (rw [hW]; repeat (first | (refine cell_newg ?_ rfl; simp; done) | refine cell_old ?_))
  rw [← hW] at hB ⊢
  refine (unify_any sv _ _ sumS [2, -1, -2] [2, -2, -3] W (hs.kp (Kp.of_below hB)) i1 i2 (hT.below hB) (by decide) (by decide)).mono ?_
  rintro e w' ⟨v, rfl, ho, hb⟩
  have hx := ex2_ok
  rw [hx.2] at ho
  obtain ⟨ao, cap, hv, _⟩ := Row.flat ho.bs
  subst hv
  exact ⟨ao, cap, by rw [hx.1]; rfl, ho.bs, below_step hB hb⟩

set_option maxRecDepth 100000 in
theorem u6_3 (w : World) (sv : Value) (hs : Sg w sv sumS) (hT : Tabs w) : Calls Tryd.prog 10 #[sv, .slice (some ⟨w.heap.size, 0, none⟩) 1 1, .slice (some ⟨w.heap.size + 1, 0, none⟩) 2 2] ((w.alloc (Obj.cells #[Value.int IntKind.i64 (-1)] 3)).alloc (Obj.cells #[Value.int IntKind.i64 1, Value.int IntKind.i64 (-1)] 3))
    fun e w' => ∃ ao cap, e = .returned (.tuple #[.slice ao 0 cap, .int .i64 60]) ∧ Bs w' (.slice ao 0 cap) [] ∧ Below w.heap.size w w' := by
  have hB : Below w.heap.size w ((w.alloc (Obj.cells #[Value.int IntKind.i64 (-1)] 3)).alloc (Obj.cells #[Value.int IntKind.i64 1, Value.int IntKind.i64 (-1)] 3)) := (below_step (below_alloc _) (below_alloc _))
  obtain ⟨W, hW⟩ : ∃ W, W = ((w.alloc (Obj.cells #[Value.int IntKind.i64 (-1)] 3)).alloc (Obj.cells #[Value.int IntKind.i64 1, Value.int IntKind.i64 (-1)] 3)) := ⟨_, rfl⟩
  have hsz : W.heap.size = w.heap.size + 2 := by rw [hW]; simp
  have i1 : Is W (.slice (some ⟨w.heap.size, 0, none⟩) 1 1) [-1] := by
    refine is_lit (p := [-1]) (by omega) (by decide) ⟨ei (by omega) (by omega) ?_, trivial⟩ <;> (rw [hW]; repeat (first | (refine cell_newg ?_ rfl; simp; done) | refine cell_old ?_))
  have i2 : Is W (.slice (some ⟨w.heap.size + 1, 0, none⟩) 2 2) [1, -1] := by
    refine is_lit (p := [1, -1]) (by omega) (by decide) ⟨ei (by omega) (by omega) ?_, ei (by omega) (by omega) ?_, trivial⟩ <;> (rw [hW]; repeat (first | (refine cell_newg ?_ rfl; simp; done) | refine cell_old ?_))
  rw [← hW] at hB ⊢
  refine (unify_any sv _ _ sumS [-1] [1, -1] W (hs.kp (Kp.of_below hB)) i1 i2 (hT.below hB) (by decide) (by decide)).mono ?_
  rintro e w' ⟨v, rfl, ho, hb⟩
  have hx := (uniE_no (sig := sumS) (a := [-1]) (b := [1, -1]) (by kernel_rfl) ex3_no)
  rw [hx.2] at ho
  obtain ⟨ao, cap, hv, _⟩ := Row.flat ho.bs
  subst hv
  exact ⟨ao, cap, by rw [hx.1]; rfl, ho.bs, below_step hB hb⟩

set_option maxRecDepth 100000 in
theorem u6_4 (w : World) (sv : Value) (hs : Sg w sv sumS) (hT : Tabs w) : Calls Tryd.prog 10 #[sv, .slice (some ⟨w.heap.size, 0, none⟩) 3 3, .slice (some ⟨w.heap.size + 1, 0, none⟩) 4 4] ((w.alloc (Obj.cells #[Value.int IntKind.i64 2, Value.int IntKind.i64 0, Value.int IntKind.i64 (-2)] 3)).alloc (Obj.cells #[Value.int IntKind.i64 2, Value.int IntKind.i64 1, Value.int IntKind.i64 (-1), Value.int IntKind.i64 (-2)] 3))
    fun e w' => ∃ ao cap, e = .returned (.tuple #[.slice ao 0 cap, .int .i64 60]) ∧ Bs w' (.slice ao 0 cap) [] ∧ Below w.heap.size w w' := by
  have hB : Below w.heap.size w ((w.alloc (Obj.cells #[Value.int IntKind.i64 2, Value.int IntKind.i64 0, Value.int IntKind.i64 (-2)] 3)).alloc (Obj.cells #[Value.int IntKind.i64 2, Value.int IntKind.i64 1, Value.int IntKind.i64 (-1), Value.int IntKind.i64 (-2)] 3)) := (below_step (below_alloc _) (below_alloc _))
  obtain ⟨W, hW⟩ : ∃ W, W = ((w.alloc (Obj.cells #[Value.int IntKind.i64 2, Value.int IntKind.i64 0, Value.int IntKind.i64 (-2)] 3)).alloc (Obj.cells #[Value.int IntKind.i64 2, Value.int IntKind.i64 1, Value.int IntKind.i64 (-1), Value.int IntKind.i64 (-2)] 3)) := ⟨_, rfl⟩
  have hsz : W.heap.size = w.heap.size + 2 := by rw [hW]; simp
  have i1 : Is W (.slice (some ⟨w.heap.size, 0, none⟩) 3 3) [2, 0, -2] := by
    refine is_lit (p := [2, 0, -2]) (by omega) (by decide) ⟨ei (by omega) (by omega) ?_, ei (by omega) (by omega) ?_, ei (by omega) (by omega) ?_, trivial⟩ <;> (rw [hW]; repeat (first | (refine cell_newg ?_ rfl; simp; done) | refine cell_old ?_))
  have i2 : Is W (.slice (some ⟨w.heap.size + 1, 0, none⟩) 4 4) [2, 1, -1, -2] := by
    refine is_lit (p := [2, 1, -1, -2]) (by omega) (by decide) ⟨ei (by omega) (by omega) ?_, ei (by omega) (by omega) ?_, ei (by omega) (by omega) ?_, ei (by omega) (by omega) ?_, trivial⟩ <;> (rw [hW]; repeat (first | (refine cell_newg ?_ rfl; simp; done) | refine cell_old ?_))
  rw [← hW] at hB ⊢
  refine (unify_any sv _ _ sumS [2, 0, -2] [2, 1, -1, -2] W (hs.kp (Kp.of_below hB)) i1 i2 (hT.below hB) (by decide) (by decide)).mono ?_
  rintro e w' ⟨v, rfl, ho, hb⟩
  have hx := (uniE_no (sig := sumS) (a := [2, 0, -2]) (b := [2, 1, -1, -2]) (by kernel_rfl) ex4_no)
  rw [hx.2] at ho
  obtain ⟨ao, cap, hv, _⟩ := Row.flat ho.bs
  subst hv
  exact ⟨ao, cap, by rw [hx.1]; rfl, ho.bs, below_step hB hb⟩

set_option maxRecDepth 100000 in
theorem u6_5 (w : World) (sv : Value) (hs : Sg w sv sumS) (hT : Tabs w) : Calls Tryd.prog 10 #[sv, .slice (some ⟨w.heap.size, 0, none⟩) 1 1, .slice (some ⟨w.heap.size + 1, 0, none⟩) 1 1] ((w.alloc (Obj.cells #[Value.int IntKind.i64 (-5)] 3)).alloc (Obj.cells #[Value.int IntKind.i64 (-5)] 3))
    fun e w' => ∃ ao cap, e = .returned (.tuple #[.slice ao 0 cap, .int .i64 0]) ∧ Bs w' (.slice ao 0 cap) [] ∧ Below w.heap.size w w' := by
  have hB : Below w.heap.size w ((w.alloc (Obj.cells #[Value.int IntKind.i64 (-5)] 3)).alloc (Obj.cells #[Value.int IntKind.i64 (-5)] 3)) := (below_step (below_alloc _) (below_alloc _))
  obtain ⟨W, hW⟩ : ∃ W, W = ((w.alloc (Obj.cells #[Value.int IntKind.i64 (-5)] 3)).alloc (Obj.cells #[Value.int IntKind.i64 (-5)] 3)) := ⟨_, rfl⟩
  have hsz : W.heap.size = w.heap.size + 2 := by rw [hW]; simp
  have i1 : Is W (.slice (some ⟨w.heap.size, 0, none⟩) 1 1) [-5] := by
    refine is_lit (p := [-5]) (by omega) (by decide) ⟨ei (by omega) (by omega) ?_, trivial⟩ <;> (rw [hW]; repeat (first | (refine cell_newg ?_ rfl; simp; done) | refine cell_old ?_))
  have i2 : Is W (.slice (some ⟨w.heap.size + 1, 0, none⟩) 1 1) [-5] := by
    refine is_lit (p := [-5]) (by omega) (by decide) ⟨ei (by omega) (by omega) ?_, trivial⟩ <;> (rw [hW]; repeat (first | (refine cell_newg ?_ rfl; simp; done) | refine cell_old ?_))
  rw [← hW] at hB ⊢
  refine (unify_any sv _ _ sumS [-5] [-5] W (hs.kp (Kp.of_below hB)) i1 i2 (hT.below hB) (by decide) (by decide)).mono ?_
  rintro e w' ⟨v, rfl, ho, hb⟩
  have hx := ex5_ok
  rw [hx.2] at ho
  obtain ⟨ao, cap, hv, _⟩ := Row.flat ho.bs
  subst hv
  exact ⟨ao, cap, by rw [hx.1]; rfl, ho.bs, below_step hB hb⟩

set_option maxRecDepth 100000 in
theorem c6_6 (w : World) (sv : Value) (hs : Sg w sv sumS) (hT : Tabs w) : Calls Tryd.prog 14 #[sv, .slice (some ⟨w.heap.size, 0, none⟩) 1 1, .slice (some ⟨w.heap.size + 1, 0, none⟩) 1 1] ((w.alloc (Obj.cells #[Value.int IntKind.i64 (-1)] 3)).alloc (Obj.cells #[Value.int IntKind.i64 0] 3))
    fun e w' => e = .returned (.bool true) ∧ Below w.heap.size w w' := by
  have hB : Below w.heap.size w ((w.alloc (Obj.cells #[Value.int IntKind.i64 (-1)] 3)).alloc (Obj.cells #[Value.int IntKind.i64 0] 3)) := (below_step (below_alloc _) (below_alloc _))
  obtain ⟨W, hW⟩ : ∃ W, W = ((w.alloc (Obj.cells #[Value.int IntKind.i64 (-1)] 3)).alloc (Obj.cells #[Value.int IntKind.i64 0] 3)) := ⟨_, rfl⟩
  have hsz : W.heap.size = w.heap.size + 2 := by rw [hW]; simp
  have i1 : Is W (.slice (some ⟨w.heap.size, 0, none⟩) 1 1) [-1] := by
    refine is_lit (p := [-1]) (by omega) (by decide) ⟨ei (by omega) (by omega) ?_, trivial⟩ <;> (rw [hW]; repeat (first | (refine cell_newg ?_ rfl; simp; done) | refine cell_old ?_))
  have i2 : Is W (.slice (some ⟨w.heap.size + 1, 0, none⟩) 1 1) [0] := by
    refine is_lit (p := [0]) (by omega) (by decide) ⟨ei (by omega) (by omega) ?_, trivial⟩ <;> (rw [hW]; repeat (first | (refine cell_newg ?_ rfl; simp; done) | refine cell_old ?_))
  rw [← hW] at hB ⊢
  refine (can_any sv _ _ sumS [-1] [0] W (hs.kp (Kp.of_below hB)) i1 i2 (hT.below hB) (by decide)).mono ?_
  rintro e w' ⟨rfl, hb⟩
  exact ⟨ret1b (by classical exact decide_eq_true ⟨by kernel_rfl, ex6_yes⟩), below_step hB hb⟩

set_option maxRecDepth 100000 in
theorem c6_7 (w : World) (sv : Value) (hs : Sg w sv sumS) (hT : Tabs w) : Calls Tryd.prog 14 #[sv, .slice (some ⟨w.heap.size, 0, none⟩) 1 1, .slice (some ⟨w.heap.size + 1, 0, none⟩) 2 2] ((w.alloc (Obj.cells #[Value.int IntKind.i64 0] 3)).alloc (Obj.cells #[Value.int IntKind.i64 1, Value.int IntKind.i64 0] 3))
    fun e w' => e = .returned (.bool false) ∧ Below w.heap.size w w' := by
  have hB : Below w.heap.size w ((w.alloc (Obj.cells #[Value.int IntKind.i64 0] 3)).alloc (Obj.cells #[Value.int IntKind.i64 1, Value.int IntKind.i64 0] 3)) := (below_step (below_alloc _) (below_alloc _))
  obtain ⟨W, hW⟩ : ∃ W, W = ((w.alloc (Obj.cells #[Value.int IntKind.i64 0] 3)).alloc (Obj.cells #[Value.int IntKind.i64 1, Value.int IntKind.i64 0] 3)) := ⟨_, rfl⟩
  have hsz : W.heap.size = w.heap.size + 2 := by rw [hW]; simp
  have i1 : Is W (.slice (some ⟨w.heap.size, 0, none⟩) 1 1) [0] := by
    refine is_lit (p := [0]) (by omega) (by decide) ⟨ei (by omega) (by omega) ?_, trivial⟩ <;> (rw [hW]; repeat (first | (refine cell_newg ?_ rfl; simp; done) | refine cell_old ?_))
  have i2 : Is W (.slice (some ⟨w.heap.size + 1, 0, none⟩) 2 2) [1, 0] := by
    refine is_lit (p := [1, 0]) (by omega) (by decide) ⟨ei (by omega) (by omega) ?_, ei (by omega) (by omega) ?_, trivial⟩ <;> (rw [hW]; repeat (first | (refine cell_newg ?_ rfl; simp; done) | refine cell_old ?_))
  rw [← hW] at hB ⊢
  refine (can_any sv _ _ sumS [0] [1, 0] W (hs.kp (Kp.of_below hB)) i1 i2 (hT.below hB) (by decide)).mono ?_
  rintro e w' ⟨rfl, hb⟩
  exact ⟨ret1b (by rw [decide_eq_false_iff_not]; exact fun h => ex7_no h.2), below_step hB hb⟩

set_option maxRecDepth 100000 in
theorem s6_1 (w : World) (v : Value) (h : Bs w v [(0, [1, -2]), (2, [1, 1, -2])]) : Calls Tryd.prog 12 #[v, .slice (some ⟨w.heap.size + 1 + 1, 0, none⟩) 2 2] (((w.alloc (Obj.cells #[Value.int IntKind.i64 1, Value.int IntKind.i64 (-2)] 3)).alloc (Obj.cells #[Value.int IntKind.i64 1, Value.int IntKind.i64 1, Value.int IntKind.i64 (-2)] 3)).alloc (Obj.cells #[Value.int IntKind.i64 0, .slice (some ⟨w.heap.size, 0, none⟩) 2 2, Value.int IntKind.i64 2, .slice (some ⟨w.heap.size + 1, 0, none⟩) 3 3] 31))
    fun e w' => e = .returned (.bool true) ∧ Below w.heap.size w w' := by
  have hB : Below w.heap.size w (((w.alloc (Obj.cells #[Value.int IntKind.i64 1, Value.int IntKind.i64 (-2)] 3)).alloc (Obj.cells #[Value.int IntKind.i64 1, Value.int IntKind.i64 1, Value.int IntKind.i64 (-2)] 3)).alloc (Obj.cells #[Value.int IntKind.i64 0, .slice (some ⟨w.heap.size, 0, none⟩) 2 2, Value.int IntKind.i64 2, .slice (some ⟨w.heap.size + 1, 0, none⟩) 3 3] 31)) := (below_step (below_step (below_alloc _) (below_alloc _)) (below_alloc _))
  obtain ⟨W, hW⟩ : ∃ W, W = (((w.alloc (Obj.cells #[Value.int IntKind.i64 1, Value.int IntKind.i64 (-2)] 3)).alloc (Obj.cells #[Value.int IntKind.i64 1, Value.int IntKind.i64 1, Value.int IntKind.i64 (-2)] 3)).alloc (Obj.cells #[Value.int IntKind.i64 0, .slice (some ⟨w.heap.size, 0, none⟩) 2 2, Value.int IntKind.i64 2, .slice (some ⟨w.heap.size + 1, 0, none⟩) 3 3] 31)) := ⟨_, rfl⟩
  have hsz : W.heap.size = w.heap.size + 3 := by rw [hW]; simp
  have i1 : Is W (.slice (some ⟨w.heap.size, 0, none⟩) 2 2) [1, -2] := by
    refine is_lit (p := [1, -2]) (by omega) (by decide) ⟨ei (by omega) (by omega) ?_, ei (by omega) (by omega) ?_, trivial⟩ <;> (rw [hW]; repeat (first | (refine cell_newg ?_ rfl; simp; done) | refine cell_old ?_))
  have i2 : Is W (.slice (some ⟨w.heap.size + 1, 0, none⟩) 3 3) [1, 1, -2] := by
    refine is_lit (p := [1, 1, -2]) (by omega) (by decide) ⟨ei (by omega) (by omega) ?_, ei (by omega) (by omega) ?_, ei (by omega) (by omega) ?_, trivial⟩ <;> (rw [hW]; repeat (first | (refine cell_newg ?_ rfl; simp; done) | refine cell_old ?_))
  have i3 : Bs W (.slice (some ⟨w.heap.size + 1 + 1, 0, none⟩) 2 2) [(0, [1, -2]), (2, [1, 1, -2])] := by
    refine bs_lit (p := [(0, [1, -2]), (2, [1, 1, -2])]) (by omega) (by decide) ⟨⟨by decide, by decide, by decide, ?_, _, ?_, i1⟩, ⟨by decide, by decide, by decide, ?_, _, ?_, i2⟩, trivial⟩ <;> (rw [hW]; repeat (first | (refine cell_newg ?_ rfl; simp; done) | refine cell_old ?_))
  rw [← hW] at hB ⊢
  refine (same6_any v _ _ W (h.kp (Kp.of_below hB)) i3).mono ?_
  rintro e w' ⟨rfl, hb⟩
  exact ⟨rfl, below_step hB hb⟩

set_option maxRecDepth 100000 in
theorem s6_2 (w : World) (v : Value) (h : Bs w v [(1, [-1]), (2, [-1])]) : Calls Tryd.prog 12 #[v, .slice (some ⟨w.heap.size + 1 + 1, 0, none⟩) 2 2] (((w.alloc (Obj.cells #[Value.int IntKind.i64 (-1)] 3)).alloc (Obj.cells #[Value.int IntKind.i64 (-1)] 3)).alloc (Obj.cells #[Value.int IntKind.i64 1, .slice (some ⟨w.heap.size, 0, none⟩) 1 1, Value.int IntKind.i64 2, .slice (some ⟨w.heap.size + 1, 0, none⟩) 1 1] 31))
    fun e w' => e = .returned (.bool true) ∧ Below w.heap.size w w' := by
  have hB : Below w.heap.size w (((w.alloc (Obj.cells #[Value.int IntKind.i64 (-1)] 3)).alloc (Obj.cells #[Value.int IntKind.i64 (-1)] 3)).alloc (Obj.cells #[Value.int IntKind.i64 1, .slice (some ⟨w.heap.size, 0, none⟩) 1 1, Value.int IntKind.i64 2, .slice (some ⟨w.heap.size + 1, 0, none⟩) 1 1] 31)) := (below_step (below_step (below_alloc _) (below_alloc _)) (below_alloc _))
  obtain ⟨W, hW⟩ : ∃ W, W = (((w.alloc (Obj.cells #[Value.int IntKind.i64 (-1)] 3)).alloc (Obj.cells #[Value.int IntKind.i64 (-1)] 3)).alloc (Obj.cells #[Value.int IntKind.i64 1, .slice (some ⟨w.heap.size, 0, none⟩) 1 1, Value.int IntKind.i64 2, .slice (some ⟨w.heap.size + 1, 0, none⟩) 1 1] 31)) := ⟨_, rfl⟩
  have hsz : W.heap.size = w.heap.size + 3 := by rw [hW]; simp
  have i1 : Is W (.slice (some ⟨w.heap.size, 0, none⟩) 1 1) [-1] := by
    refine is_lit (p := [-1]) (by omega) (by decide) ⟨ei (by omega) (by omega) ?_, trivial⟩ <;> (rw [hW]; repeat (first | (refine cell_newg ?_ rfl; simp; done) | refine cell_old ?_))
  have i2 : Is W (.slice (some ⟨w.heap.size + 1, 0, none⟩) 1 1) [-1] := by
    refine is_lit (p := [-1]) (by omega) (by decide) ⟨ei (by omega) (by omega) ?_, trivial⟩ <;> (rw [hW]; repeat (first | (refine cell_newg ?_ rfl; simp; done) | refine cell_old ?_))
  have i3 : Bs W (.slice (some ⟨w.heap.size + 1 + 1, 0, none⟩) 2 2) [(1, [-1]), (2, [-1])] := by
    refine bs_lit (p := [(1, [-1]), (2, [-1])]) (by omega) (by decide) ⟨⟨by decide, by decide, by decide, ?_, _, ?_, i1⟩, ⟨by decide, by decide, by decide, ?_, _, ?_, i2⟩, trivial⟩ <;> (rw [hW]; repeat (first | (refine cell_newg ?_ rfl; simp; done) | refine cell_old ?_))
  rw [← hW] at hB ⊢
  refine (same6_any v _ _ W (h.kp (Kp.of_below hB)) i3).mono ?_
  rintro e w' ⟨rfl, hb⟩
  exact ⟨rfl, below_step hB hb⟩

set_option maxRecDepth 100000 in
set_option maxHeartbeats 3200000 in
theorem shown6_any (w : World) (hT : Tabs w) : Calls Tryd.prog 9 #[] w fun e w' => e = .returned (.bool true) ∧ Below w.heap.size w w' := by
  have HT := hid hT
  clear hT
  have HBz := hid (Below.refl w.heap.size w)
  go_enter Tryd.func9, Tryd.ntmps9
  go_wp2_with fail
  refine (sum6_any w).mono ?_
  rintro e w1 ⟨sv1, rfl, hs1, hb1⟩
  obtain ⟨so1, sc1, rfl, _, _, _⟩ := Row.flat hs1
  have HS := hid hs1
  have HBzn := hid (below_step HBz.out hb1)
  clear HBz 
  have HBz := HBzn
  clear HBzn
  clear hs1 hb1
  go_wp2_with fail
  refine (u6_1 w1 _ HS.out (HT.out.below HBz.out)).mono ?_
  rintro e w2 ⟨ao1, cap1, rfl, hbs1, hb2⟩
  clear HS
  have HBzn := hid (below_step HBz.out hb2)
  clear HBz 
  have HBz := HBzn
  clear HBzn
  have HV1 := hid hbs1
  clear hbs1
  clear hb2
  go_wp2_with fail
  refine (sum6_any w2).mono ?_
  rintro e w3 ⟨sv3, rfl, hs3, hb3⟩
  obtain ⟨so3, sc3, rfl, _, _, _⟩ := Row.flat hs3
  have HS := hid hs3
  have HV1n := hid (HV1.out.kp (Kp.of_below hb3))
  have HBzn := hid (below_step HBz.out hb3)
  clear HBz HV1
  have HBz := HBzn
  clear HBzn
  have HV1 := HV1n
  clear HV1n
  clear hs3 hb3
  go_wp2_with fail
  refine (u6_2 w3 _ HS.out (HT.out.below HBz.out)).mono ?_
  rintro e w4 ⟨ao2, cap2, rfl, hbs2, hb4⟩
  clear HS
  have HV1n := hid (HV1.out.kp (Kp.of_below hb4))
  have HBzn := hid (below_step HBz.out hb4)
  clear HBz HV1
  have HBz := HBzn
  clear HBzn
  have HV1 := HV1n
  clear HV1n
  have HV2 := hid hbs2
  clear hbs2
  clear hb4
  go_wp2_with fail
  refine (sum6_any w4).mono ?_
  rintro e w5 ⟨sv5, rfl, hs5, hb5⟩
  obtain ⟨so5, sc5, rfl, _, _, _⟩ := Row.flat hs5
  have HS := hid hs5
  have HV1n := hid (HV1.out.kp (Kp.of_below hb5))
  have HV2n := hid (HV2.out.kp (Kp.of_below hb5))
  have HBzn := hid (below_step HBz.out hb5)
  clear HBz HV1 HV2
  have HBz := HBzn
  clear HBzn
  have HV1 := HV1n
  clear HV1n
  have HV2 := HV2n
  clear HV2n
  clear hs5 hb5
  go_wp2_with fail
  refine (u6_3 w5 _ HS.out (HT.out.below HBz.out)).mono ?_
  rintro e w6 ⟨ao3, cap3, rfl, hbs3, hb6⟩
  clear HS
  have HV1n := hid (HV1.out.kp (Kp.of_below hb6))
  have HV2n := hid (HV2.out.kp (Kp.of_below hb6))
  have HBzn := hid (below_step HBz.out hb6)
  clear HBz HV1 HV2
  have HBz := HBzn
  clear HBzn
  have HV1 := HV1n
  clear HV1n
  have HV2 := HV2n
  clear HV2n
  clear hbs3
  clear hb6
  go_wp2_with fail
  refine (sum6_any w6).mono ?_
  rintro e w7 ⟨sv7, rfl, hs7, hb7⟩
  obtain ⟨so7, sc7, rfl, _, _, _⟩ := Row.flat hs7
  have HS := hid hs7
  have HV1n := hid (HV1.out.kp (Kp.of_below hb7))
  have HV2n := hid (HV2.out.kp (Kp.of_below hb7))
  have HBzn := hid (below_step HBz.out hb7)
  clear HBz HV1 HV2
  have HBz := HBzn
  clear HBzn
  have HV1 := HV1n
  clear HV1n
  have HV2 := HV2n
  clear HV2n
  clear hs7 hb7
  go_wp2_with fail
  refine (u6_4 w7 _ HS.out (HT.out.below HBz.out)).mono ?_
  rintro e w8 ⟨ao4, cap4, rfl, hbs4, hb8⟩
  clear HS
  have HV1n := hid (HV1.out.kp (Kp.of_below hb8))
  have HV2n := hid (HV2.out.kp (Kp.of_below hb8))
  have HBzn := hid (below_step HBz.out hb8)
  clear HBz HV1 HV2
  have HBz := HBzn
  clear HBzn
  have HV1 := HV1n
  clear HV1n
  have HV2 := HV2n
  clear HV2n
  clear hbs4
  clear hb8
  go_wp2_with fail
  refine (sum6_any w8).mono ?_
  rintro e w9 ⟨sv9, rfl, hs9, hb9⟩
  obtain ⟨so9, sc9, rfl, _, _, _⟩ := Row.flat hs9
  have HS := hid hs9
  have HV1n := hid (HV1.out.kp (Kp.of_below hb9))
  have HV2n := hid (HV2.out.kp (Kp.of_below hb9))
  have HBzn := hid (below_step HBz.out hb9)
  clear HBz HV1 HV2
  have HBz := HBzn
  clear HBzn
  have HV1 := HV1n
  clear HV1n
  have HV2 := HV2n
  clear HV2n
  clear hs9 hb9
  go_wp2_with fail
  refine (u6_5 w9 _ HS.out (HT.out.below HBz.out)).mono ?_
  rintro e w10 ⟨ao5, cap5, rfl, hbs5, hb10⟩
  clear HS
  have HV1n := hid (HV1.out.kp (Kp.of_below hb10))
  have HV2n := hid (HV2.out.kp (Kp.of_below hb10))
  have HBzn := hid (below_step HBz.out hb10)
  clear HBz HV1 HV2
  have HBz := HBzn
  clear HBzn
  have HV1 := HV1n
  clear HV1n
  have HV2 := HV2n
  clear HV2n
  clear hbs5
  clear hb10
  go_wp2_with fail
  refine (s6_1 w10 _ HV1.out).mono ?_
  rintro e w11 ⟨rfl, hb11⟩
  have HV1n := hid (HV1.out.kp (Kp.of_below hb11))
  have HV2n := hid (HV2.out.kp (Kp.of_below hb11))
  have HBzn := hid (below_step HBz.out hb11)
  clear HBz HV1 HV2
  have HBz := HBzn
  clear HBzn
  have HV1 := HV1n
  clear HV1n
  have HV2 := HV2n
  clear HV2n
  clear hb11
  go_wp2_with fail
  refine (s6_2 w11 _ HV2.out).mono ?_
  rintro e w12 ⟨rfl, hb12⟩
  have HV1n := hid (HV1.out.kp (Kp.of_below hb12))
  have HV2n := hid (HV2.out.kp (Kp.of_below hb12))
  have HBzn := hid (below_step HBz.out hb12)
  clear HBz HV1 HV2
  have HBz := HBzn
  clear HBzn
  have HV1 := HV1n
  clear HV1n
  have HV2 := HV2n
  clear HV2n
  clear hb12
  go_wp2_with fail
  refine (sum6_any w12).mono ?_
  rintro e w13 ⟨sv13, rfl, hs13, hb13⟩
  obtain ⟨so13, sc13, rfl, _, _, _⟩ := Row.flat hs13
  have HS := hid hs13
  have HV1n := hid (HV1.out.kp (Kp.of_below hb13))
  have HV2n := hid (HV2.out.kp (Kp.of_below hb13))
  have HBzn := hid (below_step HBz.out hb13)
  clear HBz HV1 HV2
  have HBz := HBzn
  clear HBzn
  have HV1 := HV1n
  clear HV1n
  have HV2 := HV2n
  clear HV2n
  clear hs13 hb13
  go_wp2_with fail
  refine (c6_6 w13 _ HS.out (HT.out.below HBz.out)).mono ?_
  rintro e w14 ⟨rfl, hb14⟩
  clear HS
  have HV1n := hid (HV1.out.kp (Kp.of_below hb14))
  have HV2n := hid (HV2.out.kp (Kp.of_below hb14))
  have HBzn := hid (below_step HBz.out hb14)
  clear HBz HV1 HV2
  have HBz := HBzn
  clear HBzn
  have HV1 := HV1n
  clear HV1n
  have HV2 := HV2n
  clear HV2n
  clear hb14
  go_wp2_with fail
  refine (sum6_any w14).mono ?_
  rintro e w15 ⟨sv15, rfl, hs15, hb15⟩
  obtain ⟨so15, sc15, rfl, _, _, _⟩ := Row.flat hs15
  have HS := hid hs15
  have HV1n := hid (HV1.out.kp (Kp.of_below hb15))
  have HV2n := hid (HV2.out.kp (Kp.of_below hb15))
  have HBzn := hid (below_step HBz.out hb15)
  clear HBz HV1 HV2
  have HBz := HBzn
  clear HBzn
  have HV1 := HV1n
  clear HV1n
  have HV2 := HV2n
  clear HV2n
  clear hs15 hb15
  go_wp2_with fail
  refine (c6_7 w15 _ HS.out (HT.out.below HBz.out)).mono ?_
  rintro e w16 ⟨rfl, hb16⟩
  clear HS
  have HV1n := hid (HV1.out.kp (Kp.of_below hb16))
  have HV2n := hid (HV2.out.kp (Kp.of_below hb16))
  have HBzn := hid (below_step HBz.out hb16)
  clear HBz HV1 HV2
  have HBz := HBzn
  clear HBzn
  have HV1 := HV1n
  clear HV1n
  have HV2 := HV2n
  clear HV2n
  clear hb16
  go_wp2
  go_ret
  exact ⟨rfl, HBz.out⟩

end Go.Proofs.YtelacmijkbgliaaDoor
