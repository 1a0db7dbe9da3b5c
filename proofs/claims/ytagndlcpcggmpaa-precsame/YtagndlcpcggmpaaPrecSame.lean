/- Two calls know nothing of one another. -/
import Derived.Test.YtagndlcpcggmpaaTPrcZ
namespace Go.Proofs.Ytagndlcpcggmpaa
open Go.RowKit Go.Maps

/-- What made answers. -/
def MadeO (n : Int) (ps : List (Int × Int)) (w : World) (e : Ending) (w' : World) : Prop :=
  Below w.heap.size w w' ∧ ((closeE n ps ≠ 0 ∧ e = .returned (.tuple #[.pointer none, .pointer none, .bool true])) ∨ (closeE n ps = 0 ∧ ∃ g g', e = .returned (.tuple #[.pointer (some ⟨g, 0, none⟩), .pointer (some ⟨g', 0, none⟩), .bool true]) ∧ Pc w' (.pointer (some ⟨g, 0, none⟩)) ps ∧ Rc w' (.pointer (some ⟨g', 0, none⟩)) ps))

set_option maxRecDepth 100000 in
set_option maxHeartbeats 1600000 in
theorem made_any (n : Int) (v : Value) (ps : List (Int × Int)) (w : World) (h : Prs w v ps) : Calls Try.prog 13 #[.int .i64 n, v] w (MadeO n ps w) := by
  have HP := hidP h
  clear h
  go_enter Try.func13, Try.ntmps13
  go_wp2_with fail
  refine (close_any n _ ps w HP.out).mono ?_
  intro e w2 hc2
  have HC := hidP hc2
  clear hc2
  by_cases h0 : closeE n ps = 0
  · obtain ⟨hb2, gp, rfl, hp2⟩ := HC.out.ok h0
    have HPc := hidP hp2
    have B2 := hidP hb2
    have H0 := hidP h0
    clear hb2 hp2 h0 HC
    go_wp2_with fail
    refine (refClose_any n _ ps w2 (HP.out.later B2.out)).mono ?_
    intro e w4 hc4
    obtain ⟨hb4, gq, rfl, hq4⟩ := hc4.ok H0.out
    have HR : Hid (MadeO n ps w (.returned (.tuple #[.pointer (some ⟨gp, 0, none⟩), .pointer (some ⟨gq, 0, none⟩), .bool true])) w4) := ⟨below_step B2.out hb4, .inr ⟨H0.out, gp, gq, rfl, HPc.out.later hb4, hq4⟩⟩
    clear hc4 hb4 hq4
    go_wp2
    go_ret3
    exact HR.out
  · obtain ⟨hb2, rfl⟩ := HC.out.err rfl h0
    have B2 := hidP hb2
    clear hb2 HC
    generalize hcc : closeE n ps = c at h0 ⊢
    have HCC := hidP hcc
    clear hcc
    go_wp2_with fail
    refine (refClose_any n _ ps w2 (HP.out.later B2.out)).mono ?_
    intro e w4 hc4
    obtain ⟨hb4, rfl⟩ := hc4.err HCC.out h0
    have HR : Hid (MadeO n ps w (.returned (.tuple #[.pointer none, .pointer none, .bool true])) w4) := ⟨below_step B2.out hb4, .inl ⟨by rw [HCC.out]; exact h0, rfl⟩⟩
    clear hc4 hb4
    go_wp2
    go_ret3
    exact HR.out

set_option maxRecDepth 100000 in
set_option maxHeartbeats 12800000 in
theorem precSame_any (n : Int) (v : Value) (ps : List (Int × Int)) (m : Int) (u : Value) (qs : List (Int × Int)) (w : World) (hp : Prs w v ps) (hq : Prs w u qs) :
    Calls Try.prog 7 #[.int .i64 n, v, .int .i64 m, u] w fun e w' => e = .returned (.bool true) ∧ Below w.heap.size w w' := by
  have HP := hidP hp
  have HQ := hidP hq
  clear hp hq
  go_enter Try.func7, Try.ntmps7
  go_wp2_with fail
  refine (shown10_any w).mono ?_
  rintro e w1 ⟨rfl, hb1⟩
  have B1 : Hid (Below w.heap.size w w1) := hb1
  clear hb1
  go_wp2_with fail
  refine (made_any n _ ps w1 (HP.out.later B1.out)).mono ?_
  intro e w2 hc2
  have B2 : Hid (Below w.heap.size w w2) := below_step B1.out hc2.1
  rcases hc2.2 with ⟨h0, rfl⟩ | ⟨h0, gp, gx, rfl, hpc, hxc⟩
  · clear hc2 h0
    go_wp2_with fail
    refine (made_any m _ qs w2 (HQ.out.later B2.out)).mono ?_
    intro e w3 hc3
    have B3 : Hid (Below w.heap.size w w3) := below_step B2.out hc3.1
    rcases hc3.2 with ⟨h0, rfl⟩ | ⟨h0, gq, gy, rfl, hqc, hyc⟩
    · clear hc3 h0
      by_cases hnm : n < m
      · go_wp2
        go_loopw [16] (fun x wr => ∃ i : Nat, i ≤ 200 ∧ x = .int .i64 i ∧ Below w.heap.size w wr) (fun x _ => 200 - (intOf x).toNat)
        case atStart => exact ⟨0, by omega, rfl, B3.out⟩
        case round =>
          clear B3 
          obtain ⟨i, hi, rfl, hx0⟩ := hrel
          have B3 : Hid (Below w.heap.size w wr) := hx0
          clear hx0
          by_cases hi2 : (i : Int) < m
          · by_cases hi3 : i < 200
            · have hi3b : (i : Int) < 200 := by omega
              have hid : decide ((i : Int) < m) = true := by simp [hi2]
              have hie : decide ((i : Int) < 200) = true := by simp; omega
              go_wp2
              go_loopw [17] (fun x wr => ∃ i : Nat, i ≤ 200 ∧ x = .int .i64 i ∧ Below w.heap.size w wr) (fun x _ => 200 - (intOf x).toNat)
              case atStart => exact ⟨0, by omega, rfl, B3.out⟩
              case round =>
                clear B3 
                obtain ⟨j, hj, rfl, hx0⟩ := hrel
                have B3 : Hid (Below w.heap.size w wr) := hx0
                clear hx0
                by_cases hj2 : (j : Int) < m
                · by_cases hj3 : j < 200
                  · have hj3b : (j : Int) < 200 := by omega
                    go_wp2
                    go_roundw
                    case rel => exact ⟨j + 1, by omega, by go_num, B3.out⟩
                    case measure => simp [intOf]; omega
                  · have hj3b : ¬ (j : Int) < 200 := by omega
                    go_wp2
                    go_roundw
                    case rel => exact ⟨i + 1, by omega, by go_num, B3.out⟩
                    case measure => simp [intOf]; omega
                · go_wp2
                  go_roundw
                  case rel => exact ⟨i + 1, by omega, by go_num, B3.out⟩
                  case measure => simp [intOf]; omega
            · have hi3b : ¬ (i : Int) < 200 := by omega
              go_wp2
              go_ret
              exact ⟨rfl, B3.out⟩
          · go_wp2
            go_ret
            exact ⟨rfl, B3.out⟩
      · have hnm2 : m ≤ n := by omega
        go_wp2
        go_loopw [16] (fun x wr => ∃ i : Nat, i ≤ 200 ∧ x = .int .i64 i ∧ Below w.heap.size w wr) (fun x _ => 200 - (intOf x).toNat)
        case atStart => exact ⟨0, by omega, rfl, B3.out⟩
        case round =>
          clear B3 
          obtain ⟨i, hi, rfl, hx0⟩ := hrel
          have B3 : Hid (Below w.heap.size w wr) := hx0
          clear hx0
          by_cases hi2 : (i : Int) < n
          · by_cases hi3 : i < 200
            · have hi3b : (i : Int) < 200 := by omega
              have hid : decide ((i : Int) < n) = true := by simp [hi2]
              have hie : decide ((i : Int) < 200) = true := by simp; omega
              go_wp2
              go_loopw [17] (fun x wr => ∃ i : Nat, i ≤ 200 ∧ x = .int .i64 i ∧ Below w.heap.size w wr) (fun x _ => 200 - (intOf x).toNat)
              case atStart => exact ⟨0, by omega, rfl, B3.out⟩
              case round =>
                clear B3 
                obtain ⟨j, hj, rfl, hx0⟩ := hrel
                have B3 : Hid (Below w.heap.size w wr) := hx0
                clear hx0
                by_cases hj2 : (j : Int) < n
                · by_cases hj3 : j < 200
                  · have hj3b : (j : Int) < 200 := by omega
                    go_wp2
                    go_roundw
                    case rel => exact ⟨j + 1, by omega, by go_num, B3.out⟩
                    case measure => simp [intOf]; omega
                  · have hj3b : ¬ (j : Int) < 200 := by omega
                    go_wp2
                    go_roundw
                    case rel => exact ⟨i + 1, by omega, by go_num, B3.out⟩
                    case measure => simp [intOf]; omega
                · go_wp2
                  go_roundw
                  case rel => exact ⟨i + 1, by omega, by go_num, B3.out⟩
                  case measure => simp [intOf]; omega
            · have hi3b : ¬ (i : Int) < 200 := by omega
              go_wp2
              go_ret
              exact ⟨rfl, B3.out⟩
          · go_wp2
            go_ret
            exact ⟨rfl, B3.out⟩
    · have HQc := hidP hqc
      have HYc := hidP hyc
      clear hqc hyc
      clear hc3 h0
      by_cases hnm : n < m
      · go_wp2
        go_loopw [16] (fun x wr => ∃ i : Nat, i ≤ 200 ∧ x = .int .i64 i ∧ Below w.heap.size w wr ∧ Pc wr (.pointer (some ⟨gq, 0, none⟩)) qs ∧ Rc wr (.pointer (some ⟨gy, 0, none⟩)) qs) (fun x _ => 200 - (intOf x).toNat)
        case atStart => exact ⟨0, by omega, rfl, B3.out, HQc.out, HYc.out⟩
        case round =>
          clear B3 HQc HYc
          obtain ⟨i, hi, rfl, hx0, y0, y1⟩ := hrel
          have B3 : Hid (Below w.heap.size w wr) := hx0
          have HQc : Hid (Pc wr (.pointer (some ⟨gq, 0, none⟩)) qs) := y0
          have HYc : Hid (Rc wr (.pointer (some ⟨gy, 0, none⟩)) qs) := y1
          clear hx0 y0 y1
          by_cases hi2 : (i : Int) < m
          · by_cases hi3 : i < 200
            · have hi3b : (i : Int) < 200 := by omega
              have hid : decide ((i : Int) < m) = true := by simp [hi2]
              have hie : decide ((i : Int) < 200) = true := by simp; omega
              go_wp2
              go_loopw [17] (fun x wr => ∃ i : Nat, i ≤ 200 ∧ x = .int .i64 i ∧ Below w.heap.size w wr ∧ Pc wr (.pointer (some ⟨gq, 0, none⟩)) qs ∧ Rc wr (.pointer (some ⟨gy, 0, none⟩)) qs) (fun x _ => 200 - (intOf x).toNat)
              case atStart => exact ⟨0, by omega, rfl, B3.out, HQc.out, HYc.out⟩
              case round =>
                clear B3 HQc HYc
                obtain ⟨j, hj, rfl, hx0, y0, y1⟩ := hrel
                have B3 : Hid (Below w.heap.size w wr) := hx0
                have HQc : Hid (Pc wr (.pointer (some ⟨gq, 0, none⟩)) qs) := y0
                have HYc : Hid (Rc wr (.pointer (some ⟨gy, 0, none⟩)) qs) := y1
                clear hx0 y0 y1
                by_cases hj2 : (j : Int) < m
                · by_cases hj3 : j < 200
                  · have hj3b : (j : Int) < 200 := by omega
                    obtain ⟨y, hy⟩ : ∃ y, abB qs i j = y := ⟨_, rfl⟩
                    have HY := hidP hy
                    clear hy
                    go_wp2_with fail
                    refine (above_any qs _ i j wr HQc.out).mono ?_
                    rintro e w5 ⟨rfl, hbn⟩
                    have B3n : Hid (Below w.heap.size w w5) := below_step B3.out hbn
                    have HQcn : Hid (Pc w5 (.pointer (some ⟨gq, 0, none⟩)) qs) := HQc.out.later hbn
                    have HYcn : Hid (Rc w5 (.pointer (some ⟨gy, 0, none⟩)) qs) := HYc.out.later hbn
                    clear hbn B3 HQc HYc
                    have B3 := B3n
                    have HQc := HQcn
                    have HYc := HYcn
                    clear B3n HQcn HYcn
                    rw [HY.out]
                    go_wp2_with fail
                    refine (refAbove_any qs _ i j w5 HYc.out).mono ?_
                    rintro e w6 ⟨rfl, hwn⟩
                    obtain rfl : w5 = w6 := hwn.symm
                    rw [HY.out]
                    go_wp2
                    go_roundw
                    case rel => exact ⟨j + 1, by omega, by go_num, B3.out, HQc.out, HYc.out⟩
                    case measure => simp [intOf]; omega
                  · have hj3b : ¬ (j : Int) < 200 := by omega
                    go_wp2
                    go_roundw
                    case rel => exact ⟨i + 1, by omega, by go_num, B3.out, HQc.out, HYc.out⟩
                    case measure => simp [intOf]; omega
                · go_wp2
                  go_roundw
                  case rel => exact ⟨i + 1, by omega, by go_num, B3.out, HQc.out, HYc.out⟩
                  case measure => simp [intOf]; omega
            · have hi3b : ¬ (i : Int) < 200 := by omega
              go_wp2
              go_ret
              exact ⟨rfl, B3.out⟩
          · go_wp2
            go_ret
            exact ⟨rfl, B3.out⟩
      · have hnm2 : m ≤ n := by omega
        go_wp2
        go_loopw [16] (fun x wr => ∃ i : Nat, i ≤ 200 ∧ x = .int .i64 i ∧ Below w.heap.size w wr ∧ Pc wr (.pointer (some ⟨gq, 0, none⟩)) qs ∧ Rc wr (.pointer (some ⟨gy, 0, none⟩)) qs) (fun x _ => 200 - (intOf x).toNat)
        case atStart => exact ⟨0, by omega, rfl, B3.out, HQc.out, HYc.out⟩
        case round =>
          clear B3 HQc HYc
          obtain ⟨i, hi, rfl, hx0, y0, y1⟩ := hrel
          have B3 : Hid (Below w.heap.size w wr) := hx0
          have HQc : Hid (Pc wr (.pointer (some ⟨gq, 0, none⟩)) qs) := y0
          have HYc : Hid (Rc wr (.pointer (some ⟨gy, 0, none⟩)) qs) := y1
          clear hx0 y0 y1
          by_cases hi2 : (i : Int) < n
          · by_cases hi3 : i < 200
            · have hi3b : (i : Int) < 200 := by omega
              have hid : decide ((i : Int) < n) = true := by simp [hi2]
              have hie : decide ((i : Int) < 200) = true := by simp; omega
              go_wp2
              go_loopw [17] (fun x wr => ∃ i : Nat, i ≤ 200 ∧ x = .int .i64 i ∧ Below w.heap.size w wr ∧ Pc wr (.pointer (some ⟨gq, 0, none⟩)) qs ∧ Rc wr (.pointer (some ⟨gy, 0, none⟩)) qs) (fun x _ => 200 - (intOf x).toNat)
              case atStart => exact ⟨0, by omega, rfl, B3.out, HQc.out, HYc.out⟩
              case round =>
                clear B3 HQc HYc
                obtain ⟨j, hj, rfl, hx0, y0, y1⟩ := hrel
                have B3 : Hid (Below w.heap.size w wr) := hx0
                have HQc : Hid (Pc wr (.pointer (some ⟨gq, 0, none⟩)) qs) := y0
                have HYc : Hid (Rc wr (.pointer (some ⟨gy, 0, none⟩)) qs) := y1
                clear hx0 y0 y1
                by_cases hj2 : (j : Int) < n
                · by_cases hj3 : j < 200
                  · have hj3b : (j : Int) < 200 := by omega
                    obtain ⟨y, hy⟩ : ∃ y, abB qs i j = y := ⟨_, rfl⟩
                    have HY := hidP hy
                    clear hy
                    go_wp2_with fail
                    refine (above_any qs _ i j wr HQc.out).mono ?_
                    rintro e w5 ⟨rfl, hbn⟩
                    have B3n : Hid (Below w.heap.size w w5) := below_step B3.out hbn
                    have HQcn : Hid (Pc w5 (.pointer (some ⟨gq, 0, none⟩)) qs) := HQc.out.later hbn
                    have HYcn : Hid (Rc w5 (.pointer (some ⟨gy, 0, none⟩)) qs) := HYc.out.later hbn
                    clear hbn B3 HQc HYc
                    have B3 := B3n
                    have HQc := HQcn
                    have HYc := HYcn
                    clear B3n HQcn HYcn
                    rw [HY.out]
                    go_wp2_with fail
                    refine (refAbove_any qs _ i j w5 HYc.out).mono ?_
                    rintro e w6 ⟨rfl, hwn⟩
                    obtain rfl : w5 = w6 := hwn.symm
                    rw [HY.out]
                    go_wp2
                    go_roundw
                    case rel => exact ⟨j + 1, by omega, by go_num, B3.out, HQc.out, HYc.out⟩
                    case measure => simp [intOf]; omega
                  · have hj3b : ¬ (j : Int) < 200 := by omega
                    go_wp2
                    go_roundw
                    case rel => exact ⟨i + 1, by omega, by go_num, B3.out, HQc.out, HYc.out⟩
                    case measure => simp [intOf]; omega
                · go_wp2
                  go_roundw
                  case rel => exact ⟨i + 1, by omega, by go_num, B3.out, HQc.out, HYc.out⟩
                  case measure => simp [intOf]; omega
            · have hi3b : ¬ (i : Int) < 200 := by omega
              go_wp2
              go_ret
              exact ⟨rfl, B3.out⟩
          · go_wp2
            go_ret
            exact ⟨rfl, B3.out⟩
  · have HPc2 := hidP hpc
    have HXc2 := hidP hxc
    clear hpc hxc
    clear hc2 h0
    go_wp2_with fail
    refine (made_any m _ qs w2 (HQ.out.later B2.out)).mono ?_
    intro e w3 hc3
    have B3 : Hid (Below w.heap.size w w3) := below_step B2.out hc3.1
    have HPc : Hid (Pc w3 (.pointer (some ⟨gp, 0, none⟩)) ps) := HPc2.out.later hc3.1
    have HXc : Hid (Rc w3 (.pointer (some ⟨gx, 0, none⟩)) ps) := HXc2.out.later hc3.1
    clear HPc2 HXc2
    rcases hc3.2 with ⟨h0, rfl⟩ | ⟨h0, gq, gy, rfl, hqc, hyc⟩
    · clear hc3 h0
      by_cases hnm : n < m
      · go_wp2
        go_loopw [16] (fun x wr => ∃ i : Nat, i ≤ 200 ∧ x = .int .i64 i ∧ Below w.heap.size w wr ∧ Pc wr (.pointer (some ⟨gp, 0, none⟩)) ps ∧ Rc wr (.pointer (some ⟨gx, 0, none⟩)) ps) (fun x _ => 200 - (intOf x).toNat)
        case atStart => exact ⟨0, by omega, rfl, B3.out, HPc.out, HXc.out⟩
        case round =>
          clear B3 HPc HXc
          obtain ⟨i, hi, rfl, hx0, y0, y1⟩ := hrel
          have B3 : Hid (Below w.heap.size w wr) := hx0
          have HPc : Hid (Pc wr (.pointer (some ⟨gp, 0, none⟩)) ps) := y0
          have HXc : Hid (Rc wr (.pointer (some ⟨gx, 0, none⟩)) ps) := y1
          clear hx0 y0 y1
          by_cases hi2 : (i : Int) < m
          · by_cases hi3 : i < 200
            · have hi3b : (i : Int) < 200 := by omega
              have hid : decide ((i : Int) < m) = true := by simp [hi2]
              have hie : decide ((i : Int) < 200) = true := by simp; omega
              go_wp2
              go_loopw [17] (fun x wr => ∃ i : Nat, i ≤ 200 ∧ x = .int .i64 i ∧ Below w.heap.size w wr ∧ Pc wr (.pointer (some ⟨gp, 0, none⟩)) ps ∧ Rc wr (.pointer (some ⟨gx, 0, none⟩)) ps) (fun x _ => 200 - (intOf x).toNat)
              case atStart => exact ⟨0, by omega, rfl, B3.out, HPc.out, HXc.out⟩
              case round =>
                clear B3 HPc HXc
                obtain ⟨j, hj, rfl, hx0, y0, y1⟩ := hrel
                have B3 : Hid (Below w.heap.size w wr) := hx0
                have HPc : Hid (Pc wr (.pointer (some ⟨gp, 0, none⟩)) ps) := y0
                have HXc : Hid (Rc wr (.pointer (some ⟨gx, 0, none⟩)) ps) := y1
                clear hx0 y0 y1
                by_cases hj2 : (j : Int) < m
                · by_cases hj3 : j < 200
                  · have hj3b : (j : Int) < 200 := by omega
                    obtain ⟨z, hz⟩ : ∃ z, abB ps i j = z := ⟨_, rfl⟩
                    have HZ := hidP hz
                    clear hz
                    go_wp2_with fail
                    refine (above_any ps _ i j wr HPc.out).mono ?_
                    rintro e w5 ⟨rfl, hbn⟩
                    have B3n : Hid (Below w.heap.size w w5) := below_step B3.out hbn
                    have HPcn : Hid (Pc w5 (.pointer (some ⟨gp, 0, none⟩)) ps) := HPc.out.later hbn
                    have HXcn : Hid (Rc w5 (.pointer (some ⟨gx, 0, none⟩)) ps) := HXc.out.later hbn
                    clear hbn B3 HPc HXc
                    have B3 := B3n
                    have HPc := HPcn
                    have HXc := HXcn
                    clear B3n HPcn HXcn
                    rw [HZ.out]
                    go_wp2_with fail
                    refine (refAbove_any ps _ i j w5 HXc.out).mono ?_
                    rintro e w6 ⟨rfl, hwn⟩
                    obtain rfl : w5 = w6 := hwn.symm
                    rw [HZ.out]
                    go_wp2
                    go_roundw
                    case rel => exact ⟨j + 1, by omega, by go_num, B3.out, HPc.out, HXc.out⟩
                    case measure => simp [intOf]; omega
                  · have hj3b : ¬ (j : Int) < 200 := by omega
                    go_wp2
                    go_roundw
                    case rel => exact ⟨i + 1, by omega, by go_num, B3.out, HPc.out, HXc.out⟩
                    case measure => simp [intOf]; omega
                · go_wp2
                  go_roundw
                  case rel => exact ⟨i + 1, by omega, by go_num, B3.out, HPc.out, HXc.out⟩
                  case measure => simp [intOf]; omega
            · have hi3b : ¬ (i : Int) < 200 := by omega
              go_wp2
              go_ret
              exact ⟨rfl, B3.out⟩
          · go_wp2
            go_ret
            exact ⟨rfl, B3.out⟩
      · have hnm2 : m ≤ n := by omega
        go_wp2
        go_loopw [16] (fun x wr => ∃ i : Nat, i ≤ 200 ∧ x = .int .i64 i ∧ Below w.heap.size w wr ∧ Pc wr (.pointer (some ⟨gp, 0, none⟩)) ps ∧ Rc wr (.pointer (some ⟨gx, 0, none⟩)) ps) (fun x _ => 200 - (intOf x).toNat)
        case atStart => exact ⟨0, by omega, rfl, B3.out, HPc.out, HXc.out⟩
        case round =>
          clear B3 HPc HXc
          obtain ⟨i, hi, rfl, hx0, y0, y1⟩ := hrel
          have B3 : Hid (Below w.heap.size w wr) := hx0
          have HPc : Hid (Pc wr (.pointer (some ⟨gp, 0, none⟩)) ps) := y0
          have HXc : Hid (Rc wr (.pointer (some ⟨gx, 0, none⟩)) ps) := y1
          clear hx0 y0 y1
          by_cases hi2 : (i : Int) < n
          · by_cases hi3 : i < 200
            · have hi3b : (i : Int) < 200 := by omega
              have hid : decide ((i : Int) < n) = true := by simp [hi2]
              have hie : decide ((i : Int) < 200) = true := by simp; omega
              go_wp2
              go_loopw [17] (fun x wr => ∃ i : Nat, i ≤ 200 ∧ x = .int .i64 i ∧ Below w.heap.size w wr ∧ Pc wr (.pointer (some ⟨gp, 0, none⟩)) ps ∧ Rc wr (.pointer (some ⟨gx, 0, none⟩)) ps) (fun x _ => 200 - (intOf x).toNat)
              case atStart => exact ⟨0, by omega, rfl, B3.out, HPc.out, HXc.out⟩
              case round =>
                clear B3 HPc HXc
                obtain ⟨j, hj, rfl, hx0, y0, y1⟩ := hrel
                have B3 : Hid (Below w.heap.size w wr) := hx0
                have HPc : Hid (Pc wr (.pointer (some ⟨gp, 0, none⟩)) ps) := y0
                have HXc : Hid (Rc wr (.pointer (some ⟨gx, 0, none⟩)) ps) := y1
                clear hx0 y0 y1
                by_cases hj2 : (j : Int) < n
                · by_cases hj3 : j < 200
                  · have hj3b : (j : Int) < 200 := by omega
                    obtain ⟨z, hz⟩ : ∃ z, abB ps i j = z := ⟨_, rfl⟩
                    have HZ := hidP hz
                    clear hz
                    go_wp2_with fail
                    refine (above_any ps _ i j wr HPc.out).mono ?_
                    rintro e w5 ⟨rfl, hbn⟩
                    have B3n : Hid (Below w.heap.size w w5) := below_step B3.out hbn
                    have HPcn : Hid (Pc w5 (.pointer (some ⟨gp, 0, none⟩)) ps) := HPc.out.later hbn
                    have HXcn : Hid (Rc w5 (.pointer (some ⟨gx, 0, none⟩)) ps) := HXc.out.later hbn
                    clear hbn B3 HPc HXc
                    have B3 := B3n
                    have HPc := HPcn
                    have HXc := HXcn
                    clear B3n HPcn HXcn
                    rw [HZ.out]
                    go_wp2_with fail
                    refine (refAbove_any ps _ i j w5 HXc.out).mono ?_
                    rintro e w6 ⟨rfl, hwn⟩
                    obtain rfl : w5 = w6 := hwn.symm
                    rw [HZ.out]
                    go_wp2
                    go_roundw
                    case rel => exact ⟨j + 1, by omega, by go_num, B3.out, HPc.out, HXc.out⟩
                    case measure => simp [intOf]; omega
                  · have hj3b : ¬ (j : Int) < 200 := by omega
                    go_wp2
                    go_roundw
                    case rel => exact ⟨i + 1, by omega, by go_num, B3.out, HPc.out, HXc.out⟩
                    case measure => simp [intOf]; omega
                · go_wp2
                  go_roundw
                  case rel => exact ⟨i + 1, by omega, by go_num, B3.out, HPc.out, HXc.out⟩
                  case measure => simp [intOf]; omega
            · have hi3b : ¬ (i : Int) < 200 := by omega
              go_wp2
              go_ret
              exact ⟨rfl, B3.out⟩
          · go_wp2
            go_ret
            exact ⟨rfl, B3.out⟩
    · have HQc := hidP hqc
      have HYc := hidP hyc
      clear hqc hyc
      clear hc3 h0
      by_cases hnm : n < m
      · go_wp2
        go_loopw [16] (fun x wr => ∃ i : Nat, i ≤ 200 ∧ x = .int .i64 i ∧ Below w.heap.size w wr ∧ Pc wr (.pointer (some ⟨gp, 0, none⟩)) ps ∧ Rc wr (.pointer (some ⟨gx, 0, none⟩)) ps ∧ Pc wr (.pointer (some ⟨gq, 0, none⟩)) qs ∧ Rc wr (.pointer (some ⟨gy, 0, none⟩)) qs) (fun x _ => 200 - (intOf x).toNat)
        case atStart => exact ⟨0, by omega, rfl, B3.out, HPc.out, HXc.out, HQc.out, HYc.out⟩
        case round =>
          clear B3 HPc HXc HQc HYc
          obtain ⟨i, hi, rfl, hx0, y0, y1, y2, y3⟩ := hrel
          have B3 : Hid (Below w.heap.size w wr) := hx0
          have HPc : Hid (Pc wr (.pointer (some ⟨gp, 0, none⟩)) ps) := y0
          have HXc : Hid (Rc wr (.pointer (some ⟨gx, 0, none⟩)) ps) := y1
          have HQc : Hid (Pc wr (.pointer (some ⟨gq, 0, none⟩)) qs) := y2
          have HYc : Hid (Rc wr (.pointer (some ⟨gy, 0, none⟩)) qs) := y3
          clear hx0 y0 y1 y2 y3
          by_cases hi2 : (i : Int) < m
          · by_cases hi3 : i < 200
            · have hi3b : (i : Int) < 200 := by omega
              have hid : decide ((i : Int) < m) = true := by simp [hi2]
              have hie : decide ((i : Int) < 200) = true := by simp; omega
              go_wp2
              go_loopw [17] (fun x wr => ∃ i : Nat, i ≤ 200 ∧ x = .int .i64 i ∧ Below w.heap.size w wr ∧ Pc wr (.pointer (some ⟨gp, 0, none⟩)) ps ∧ Rc wr (.pointer (some ⟨gx, 0, none⟩)) ps ∧ Pc wr (.pointer (some ⟨gq, 0, none⟩)) qs ∧ Rc wr (.pointer (some ⟨gy, 0, none⟩)) qs) (fun x _ => 200 - (intOf x).toNat)
              case atStart => exact ⟨0, by omega, rfl, B3.out, HPc.out, HXc.out, HQc.out, HYc.out⟩
              case round =>
                clear B3 HPc HXc HQc HYc
                obtain ⟨j, hj, rfl, hx0, y0, y1, y2, y3⟩ := hrel
                have B3 : Hid (Below w.heap.size w wr) := hx0
                have HPc : Hid (Pc wr (.pointer (some ⟨gp, 0, none⟩)) ps) := y0
                have HXc : Hid (Rc wr (.pointer (some ⟨gx, 0, none⟩)) ps) := y1
                have HQc : Hid (Pc wr (.pointer (some ⟨gq, 0, none⟩)) qs) := y2
                have HYc : Hid (Rc wr (.pointer (some ⟨gy, 0, none⟩)) qs) := y3
                clear hx0 y0 y1 y2 y3
                by_cases hj2 : (j : Int) < m
                · by_cases hj3 : j < 200
                  · have hj3b : (j : Int) < 200 := by omega
                    obtain ⟨z, hz⟩ : ∃ z, abB ps i j = z := ⟨_, rfl⟩
                    have HZ := hidP hz
                    clear hz
                    obtain ⟨y, hy⟩ : ∃ y, abB qs i j = y := ⟨_, rfl⟩
                    have HY := hidP hy
                    clear hy
                    go_wp2_with fail
                    refine (above_any ps _ i j wr HPc.out).mono ?_
                    rintro e w5 ⟨rfl, hbn⟩
                    have B3n : Hid (Below w.heap.size w w5) := below_step B3.out hbn
                    have HPcn : Hid (Pc w5 (.pointer (some ⟨gp, 0, none⟩)) ps) := HPc.out.later hbn
                    have HXcn : Hid (Rc w5 (.pointer (some ⟨gx, 0, none⟩)) ps) := HXc.out.later hbn
                    have HQcn : Hid (Pc w5 (.pointer (some ⟨gq, 0, none⟩)) qs) := HQc.out.later hbn
                    have HYcn : Hid (Rc w5 (.pointer (some ⟨gy, 0, none⟩)) qs) := HYc.out.later hbn
                    clear hbn B3 HPc HXc HQc HYc
                    have B3 := B3n
                    have HPc := HPcn
                    have HXc := HXcn
                    have HQc := HQcn
                    have HYc := HYcn
                    clear B3n HPcn HXcn HQcn HYcn
                    rw [HZ.out]
                    go_wp2_with fail
                    refine (refAbove_any ps _ i j w5 HXc.out).mono ?_
                    rintro e w6 ⟨rfl, hwn⟩
                    obtain rfl : w5 = w6 := hwn.symm
                    rw [HZ.out]
                    go_wp2_with fail
                    refine (above_any qs _ i j w5 HQc.out).mono ?_
                    rintro e w7 ⟨rfl, hbn⟩
                    have B3n : Hid (Below w.heap.size w w7) := below_step B3.out hbn
                    have HPcn : Hid (Pc w7 (.pointer (some ⟨gp, 0, none⟩)) ps) := HPc.out.later hbn
                    have HXcn : Hid (Rc w7 (.pointer (some ⟨gx, 0, none⟩)) ps) := HXc.out.later hbn
                    have HQcn : Hid (Pc w7 (.pointer (some ⟨gq, 0, none⟩)) qs) := HQc.out.later hbn
                    have HYcn : Hid (Rc w7 (.pointer (some ⟨gy, 0, none⟩)) qs) := HYc.out.later hbn
                    clear hbn B3 HPc HXc HQc HYc
                    have B3 := B3n
                    have HPc := HPcn
                    have HXc := HXcn
                    have HQc := HQcn
                    have HYc := HYcn
                    clear B3n HPcn HXcn HQcn HYcn
                    rw [HY.out]
                    go_wp2_with fail
                    refine (refAbove_any qs _ i j w7 HYc.out).mono ?_
                    rintro e w8 ⟨rfl, hwn⟩
                    obtain rfl : w7 = w8 := hwn.symm
                    rw [HY.out]
                    go_wp2
                    go_roundw
                    case rel => exact ⟨j + 1, by omega, by go_num, B3.out, HPc.out, HXc.out, HQc.out, HYc.out⟩
                    case measure => simp [intOf]; omega
                  · have hj3b : ¬ (j : Int) < 200 := by omega
                    go_wp2
                    go_roundw
                    case rel => exact ⟨i + 1, by omega, by go_num, B3.out, HPc.out, HXc.out, HQc.out, HYc.out⟩
                    case measure => simp [intOf]; omega
                · go_wp2
                  go_roundw
                  case rel => exact ⟨i + 1, by omega, by go_num, B3.out, HPc.out, HXc.out, HQc.out, HYc.out⟩
                  case measure => simp [intOf]; omega
            · have hi3b : ¬ (i : Int) < 200 := by omega
              go_wp2
              go_ret
              exact ⟨rfl, B3.out⟩
          · go_wp2
            go_ret
            exact ⟨rfl, B3.out⟩
      · have hnm2 : m ≤ n := by omega
        go_wp2
        go_loopw [16] (fun x wr => ∃ i : Nat, i ≤ 200 ∧ x = .int .i64 i ∧ Below w.heap.size w wr ∧ Pc wr (.pointer (some ⟨gp, 0, none⟩)) ps ∧ Rc wr (.pointer (some ⟨gx, 0, none⟩)) ps ∧ Pc wr (.pointer (some ⟨gq, 0, none⟩)) qs ∧ Rc wr (.pointer (some ⟨gy, 0, none⟩)) qs) (fun x _ => 200 - (intOf x).toNat)
        case atStart => exact ⟨0, by omega, rfl, B3.out, HPc.out, HXc.out, HQc.out, HYc.out⟩
        case round =>
          clear B3 HPc HXc HQc HYc
          obtain ⟨i, hi, rfl, hx0, y0, y1, y2, y3⟩ := hrel
          have B3 : Hid (Below w.heap.size w wr) := hx0
          have HPc : Hid (Pc wr (.pointer (some ⟨gp, 0, none⟩)) ps) := y0
          have HXc : Hid (Rc wr (.pointer (some ⟨gx, 0, none⟩)) ps) := y1
          have HQc : Hid (Pc wr (.pointer (some ⟨gq, 0, none⟩)) qs) := y2
          have HYc : Hid (Rc wr (.pointer (some ⟨gy, 0, none⟩)) qs) := y3
          clear hx0 y0 y1 y2 y3
          by_cases hi2 : (i : Int) < n
          · by_cases hi3 : i < 200
            · have hi3b : (i : Int) < 200 := by omega
              have hid : decide ((i : Int) < n) = true := by simp [hi2]
              have hie : decide ((i : Int) < 200) = true := by simp; omega
              go_wp2
              go_loopw [17] (fun x wr => ∃ i : Nat, i ≤ 200 ∧ x = .int .i64 i ∧ Below w.heap.size w wr ∧ Pc wr (.pointer (some ⟨gp, 0, none⟩)) ps ∧ Rc wr (.pointer (some ⟨gx, 0, none⟩)) ps ∧ Pc wr (.pointer (some ⟨gq, 0, none⟩)) qs ∧ Rc wr (.pointer (some ⟨gy, 0, none⟩)) qs) (fun x _ => 200 - (intOf x).toNat)
              case atStart => exact ⟨0, by omega, rfl, B3.out, HPc.out, HXc.out, HQc.out, HYc.out⟩
              case round =>
                clear B3 HPc HXc HQc HYc
                obtain ⟨j, hj, rfl, hx0, y0, y1, y2, y3⟩ := hrel
                have B3 : Hid (Below w.heap.size w wr) := hx0
                have HPc : Hid (Pc wr (.pointer (some ⟨gp, 0, none⟩)) ps) := y0
                have HXc : Hid (Rc wr (.pointer (some ⟨gx, 0, none⟩)) ps) := y1
                have HQc : Hid (Pc wr (.pointer (some ⟨gq, 0, none⟩)) qs) := y2
                have HYc : Hid (Rc wr (.pointer (some ⟨gy, 0, none⟩)) qs) := y3
                clear hx0 y0 y1 y2 y3
                by_cases hj2 : (j : Int) < n
                · by_cases hj3 : j < 200
                  · have hj3b : (j : Int) < 200 := by omega
                    obtain ⟨z, hz⟩ : ∃ z, abB ps i j = z := ⟨_, rfl⟩
                    have HZ := hidP hz
                    clear hz
                    obtain ⟨y, hy⟩ : ∃ y, abB qs i j = y := ⟨_, rfl⟩
                    have HY := hidP hy
                    clear hy
                    go_wp2_with fail
                    refine (above_any ps _ i j wr HPc.out).mono ?_
                    rintro e w5 ⟨rfl, hbn⟩
                    have B3n : Hid (Below w.heap.size w w5) := below_step B3.out hbn
                    have HPcn : Hid (Pc w5 (.pointer (some ⟨gp, 0, none⟩)) ps) := HPc.out.later hbn
                    have HXcn : Hid (Rc w5 (.pointer (some ⟨gx, 0, none⟩)) ps) := HXc.out.later hbn
                    have HQcn : Hid (Pc w5 (.pointer (some ⟨gq, 0, none⟩)) qs) := HQc.out.later hbn
                    have HYcn : Hid (Rc w5 (.pointer (some ⟨gy, 0, none⟩)) qs) := HYc.out.later hbn
                    clear hbn B3 HPc HXc HQc HYc
                    have B3 := B3n
                    have HPc := HPcn
                    have HXc := HXcn
                    have HQc := HQcn
                    have HYc := HYcn
                    clear B3n HPcn HXcn HQcn HYcn
                    rw [HZ.out]
                    go_wp2_with fail
                    refine (refAbove_any ps _ i j w5 HXc.out).mono ?_
                    rintro e w6 ⟨rfl, hwn⟩
                    obtain rfl : w5 = w6 := hwn.symm
                    rw [HZ.out]
                    go_wp2_with fail
                    refine (above_any qs _ i j w5 HQc.out).mono ?_
                    rintro e w7 ⟨rfl, hbn⟩
                    have B3n : Hid (Below w.heap.size w w7) := below_step B3.out hbn
                    have HPcn : Hid (Pc w7 (.pointer (some ⟨gp, 0, none⟩)) ps) := HPc.out.later hbn
                    have HXcn : Hid (Rc w7 (.pointer (some ⟨gx, 0, none⟩)) ps) := HXc.out.later hbn
                    have HQcn : Hid (Pc w7 (.pointer (some ⟨gq, 0, none⟩)) qs) := HQc.out.later hbn
                    have HYcn : Hid (Rc w7 (.pointer (some ⟨gy, 0, none⟩)) qs) := HYc.out.later hbn
                    clear hbn B3 HPc HXc HQc HYc
                    have B3 := B3n
                    have HPc := HPcn
                    have HXc := HXcn
                    have HQc := HQcn
                    have HYc := HYcn
                    clear B3n HPcn HXcn HQcn HYcn
                    rw [HY.out]
                    go_wp2_with fail
                    refine (refAbove_any qs _ i j w7 HYc.out).mono ?_
                    rintro e w8 ⟨rfl, hwn⟩
                    obtain rfl : w7 = w8 := hwn.symm
                    rw [HY.out]
                    go_wp2
                    go_roundw
                    case rel => exact ⟨j + 1, by omega, by go_num, B3.out, HPc.out, HXc.out, HQc.out, HYc.out⟩
                    case measure => simp [intOf]; omega
                  · have hj3b : ¬ (j : Int) < 200 := by omega
                    go_wp2
                    go_roundw
                    case rel => exact ⟨i + 1, by omega, by go_num, B3.out, HPc.out, HXc.out, HQc.out, HYc.out⟩
                    case measure => simp [intOf]; omega
                · go_wp2
                  go_roundw
                  case rel => exact ⟨i + 1, by omega, by go_num, B3.out, HPc.out, HXc.out, HQc.out, HYc.out⟩
                  case measure => simp [intOf]; omega
            · have hi3b : ¬ (i : Int) < 200 := by omega
              go_wp2
              go_ret
              exact ⟨rfl, B3.out⟩
          · go_wp2
            go_ret
            exact ⟨rfl, B3.out⟩

end Go.Proofs.Ytagndlcpcggmpaa
