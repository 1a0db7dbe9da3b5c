/- The document's Close of layer 10. -/
import Derived.Test.YtagndlcpcggmpaaTPrcR
namespace Go.Proofs.Ytagndlcpcggmpaa
open Go.RowKit Go.Maps

/-- The document's precedence of these pairs. -/
def Rc (w : World) (v : Value) (ps : List (Int × Int)) : Prop := ∃ base gp ro rc rb N U, v = .pointer (some ⟨gp, 0, none⟩) ∧ RU base w gp ro rc rb N N U ∧ ∀ i j, (i < N ∧ j < N ∧ U i j = true) ↔ Up ps i j

theorem Rc.later {w w' : World} {v : Value} {ps : List (Int × Int)} (h : Rc w v ps) (hb : Below w.heap.size w w') : Rc w' v ps := by
  obtain ⟨base, gp, ro, rc, rb, N, U, hv, h1, h2⟩ := h
  exact ⟨base, gp, ro, rc, rb, N, U, hv, h1.later hb, h2⟩

/-- What the document's Close answers. -/
def RefO (n : Int) (ps : List (Int × Int)) (w : World) (e : Ending) (w' : World) : Prop :=
  Below w.heap.size w w' ∧ ((closeE n ps ≠ 0 ∧ e = .returned (.tuple #[.pointer none, .int .i64 (closeE n ps)])) ∨ (closeE n ps = 0 ∧ ∃ g, e = .returned (.tuple #[.pointer (some ⟨g, 0, none⟩), .int .i64 0]) ∧ Rc w' (.pointer (some ⟨g, 0, none⟩)) ps))

theorem refO_err {n c : Int} {ps : List (Int × Int)} {w w' : World} (hE : closeE n ps = c) (hc : c ≠ 0) (hb : Below w.heap.size w w') : RefO n ps w (.returned (.tuple #[.pointer none, .int .i64 c])) w' :=
  ⟨hb, .inl ⟨by rw [hE]; exact hc, by rw [hE]⟩⟩

theorem ru_start (w : World) (n : Nat) : RU w.heap.size (w.alloc (.cells #[.slice none 0 0] 50)) w.heap.size none 0 (fun _ => 0) n 0 (fun _ _ => false) :=
  ⟨heap_alloc_new _ _, Nat.le_refl _, ⟨rfl, .inl ⟨rfl, rfl⟩⟩, fun _ h => by omega, fun _ h => by omega, fun _ _ h => by omega⟩

set_option maxRecDepth 100000 in
set_option maxHeartbeats 6400000 in
theorem refClose_any (n : Int) (v : Value) (ps : List (Int × Int)) (w : World) (h : Prs w v ps) :
    Calls Try.prog 10 #[.int .i64 n, v] w (RefO n ps w) := by
  obtain ⟨ao, cap, rfl, hcap, hcm, _⟩ := Row.flat h
  unfold maxLen at hcm
  have HP : Hid (Prs w (.slice ao ps.length cap) ps) := h
  clear h
  by_cases hn0 : n < 0
  · go_enter Try.func10, Try.ntmps10
    go_wp2
    go_ret2
    exact refO_err (closeE_arg (.inl hn0)) (by decide) (Below.refl _ _)
  by_cases hn1 : 128 < n
  · go_enter Try.func10, Try.ntmps10
    go_wp2
    go_ret2
    exact refO_err (closeE_arg (.inr hn1)) (by decide) (Below.refl _ _)
  obtain ⟨N, rfl⟩ := Int.eq_ofNat_of_zero_le (show 0 ≤ n by omega)
  have hN : N ≤ 128 := by omega
  have hd0 : decide ((N : Int) < 0) = false := by simp
  have hd1 : decide (128 < (N : Int)) = false := by simp; omega
  have HN : Hid ((0 : Int) ≤ (N : Int) ∧ (N : Int) ≤ 128) := by constructor <;> omega
  clear hn0 hn1
  go_enter Try.func10, Try.ntmps10
  go_wp2
  go_loopw [7] (fun i wr => ∃ (k : Nat) (ro : Option Addr) (rc : Nat) (rb : Nat → Nat), k ≤ N ∧ i = .int .i64 k ∧ RU w.heap.size wr w.heap.size ro rc rb N k (fun _ _ => false) ∧ Below w.heap.size w wr) (fun i _ => N - (intOf i).toNat)
  case atStart => exact ⟨0, none, 0, fun _ => 0, by omega, rfl, ru_start w N, below_alloc _⟩
  case round =>
    obtain ⟨k, ro, rc, rb, hk, rfl, hR, hbl⟩ := hrel
    have HR : Hid (RU w.heap.size wr w.heap.size ro rc rb N k (fun _ _ => false)) := hR
    have B1 : Hid (Below w.heap.size w wr) := hbl
    clear hR hbl
    by_cases hk2 : k < N
    · go_wp2_with fail
      refine wp_region_held_drew (S := fun _ => True) (by kernel_rfl) trivial (fun _ => ?_)
      obtain ⟨wd, hwd⟩ : ∃ X, X = wr.drew := ⟨_, rfl⟩
      have HR2 : Hid (RU w.heap.size wd w.heap.size ro rc rb N k (fun _ _ => false)) := by rw [hwd]; exact HR.out.later (Below.refl _ _).drew
      have B2 : Hid (Below w.heap.size w wd) := by rw [hwd]; exact B1.out.drew
      rw [← hwd]
      clear hwd HR B1
      obtain ⟨ro', rc', w3, hr3, c2, c3, hR3, hB3⟩ := ru_grow HR2.out B2.out.size (by omega) B2.out (Nat.le_refl _)
      have c1 := HR2.out.cellP
      have c1b := (Kp.of_below (below_alloc (w := wd) (.cells (rowB N (fun _ => false)) 4))).cell _ _ c1
      have c1c := (Kp.of_below (below_alloc (w := wd.alloc (.cells (rowB N (fun _ => false)) 4)) (.cells #[.slice (some ⟨wd.heap.size, 0, none⟩) N N] 51))).cell _ _ c1b
      have HR3 := hidP hr3
      have HM := hidP (run_make_bool wd N hN)
      have HU3 := hidP hR3
      have B3 := hidP hB3
      clear hr3 hR3 hB3
      refine wpAnyH_take (i := 0) (v := .pointer (some ⟨w.heap.size, 0, none⟩)) rfl (by kernel_rfl) (by kernel_rfl) (by kernel_rfl) (fun _ _ _ h => h) (Or.inl ⟨by rfl, fun w' h => by go_simp⟩) trivial ?_
      simp only [Act.put, List.setIfInBounds_toArray]
      refine wpAnyH_take (i := 1) (v := .pointer (some ⟨w.heap.size, 0, none⟩)) rfl (by kernel_rfl) (by kernel_rfl) (by kernel_rfl) (fun _ _ _ h => h) (Or.inl ⟨by rfl, fun w' h => by go_simp⟩) trivial ?_
      simp only [Act.put]
      refine wpAnyH_take (i := 2) (v := .pointer (some ⟨w.heap.size, 0, none⟩)) rfl (by kernel_rfl) (by kernel_rfl) (by kernel_rfl) (fun _ _ _ h => h) (Or.inl ⟨by rfl, fun w' h => by go_simp⟩) trivial ?_
      simp only [Act.put]
      refine wpAnyH_take (i := 3) (v := .pointer (some ⟨w.heap.size, 0, none⟩)) rfl (by kernel_rfl) (by kernel_rfl) (by kernel_rfl) (fun _ _ _ h => h) (Or.inl ⟨by rfl, fun w' h => by go_simp⟩) trivial ?_
      simp only [Act.put]
      refine wpAnyH_take (i := 5) (v := .int .i64 (N : Int)) rfl (by kernel_rfl) (by kernel_rfl) (by kernel_rfl) (fun _ _ _ h => h) (Or.inl ⟨by rfl, fun w' h => by go_simp⟩) trivial ?_
      simp only [Act.put]
      refine wpAnyH_ready (rs := [4, 6]) (by kernel_rfl) (by simp) (AllReadyH.cons rfl (fun K hK => ?_) (AllReadyH.cons rfl (fun K hK => ?_) AllReadyH.nil))
      · go_simp
        refine hK.out _ _ trivial (fun hS9 => ?_)
        clear hK K hS9
        try simp only [Act.put]
        refine wpAnyH_ready (rs := [6]) (by kernel_rfl) (by simp) (AllReadyH.cons rfl (fun K hK => ?_) AllReadyH.nil)
        · have hm := HM.out
          go_simp
          refine hK.out _ _ trivial (fun hS9 => ?_)
          clear hK K hS9 hm
          try simp only [Act.put]
          refine wpAnyH_ready (rs := [7]) (by kernel_rfl) (by simp) (AllReadyH.cons rfl (fun K hK => ?_) AllReadyH.nil)
          · go_simp
            refine hK.out _ _ trivial (fun hS9 => ?_)
            clear hK K hS9
            try simp only [Act.put]
            refine wpAnyH_ready (rs := [8]) (by kernel_rfl) (by simp) (AllReadyH.cons rfl (fun K hK => ?_) AllReadyH.nil)
            refine step_append_run rfl _ _ 48 rfl _ _ rfl rfl HR3.out ?_
            refine hK.out _ _ trivial (fun hS9 => ?_)
            clear hK K hS9
            try simp only [Act.put]
            refine wpAnyH_take (i := 9) (v := .pointer (some ⟨w.heap.size, 0, none⟩)) rfl (by kernel_rfl) (by kernel_rfl) (by kernel_rfl) (fun _ _ _ h => h) (Or.inl ⟨by rfl, fun w' h => by go_simp⟩) trivial ?_
            simp only [Act.put]
            refine wpAnyH_take (i := 10) (v := .pointer (some ⟨w.heap.size, 0, none⟩)) rfl (by kernel_rfl) (by kernel_rfl) (by kernel_rfl) (fun _ _ _ h => h) (Or.inl ⟨by rfl, fun w' h => by go_simp⟩) trivial ?_
            simp only [Act.put]
            refine wpAnyH_ready (rs := [11]) (by kernel_rfl) (by simp) (AllReadyH.cons rfl (fun K hK => ?_) AllReadyH.nil)
            go_simp
            refine hK.out _ _ trivial (fun hS9 => ?_)
            clear hK K hS9
            refine wpAnyH_done (by kernel_rfl) ?_ _
            clear HM HR3 c1 c2 c3 c1b c1c
            go_wp2
            go_roundw
            case rel => exact ⟨k + 1, _, _, _, by omega, by go_num, HU3.out, B3.out⟩
            case measure => simp [intOf]; omega
      · have hm := HM.out
        go_simp
        refine hK.out _ _ trivial (fun hS9 => ?_)
        clear hK K hS9 hm
        try simp only [Act.put]
        refine wpAnyH_ready (rs := [4, 7]) (by kernel_rfl) (by simp) (AllReadyH.cons rfl (fun K hK => ?_) (AllReadyH.cons rfl (fun K hK => ?_) AllReadyH.nil))
        · go_simp
          refine hK.out _ _ trivial (fun hS9 => ?_)
          clear hK K hS9
          try simp only [Act.put]
          refine wpAnyH_ready (rs := [7]) (by kernel_rfl) (by simp) (AllReadyH.cons rfl (fun K hK => ?_) AllReadyH.nil)
          · go_simp
            refine hK.out _ _ trivial (fun hS9 => ?_)
            clear hK K hS9
            try simp only [Act.put]
            refine wpAnyH_ready (rs := [8]) (by kernel_rfl) (by simp) (AllReadyH.cons rfl (fun K hK => ?_) AllReadyH.nil)
            refine step_append_run rfl _ _ 48 rfl _ _ rfl rfl HR3.out ?_
            refine hK.out _ _ trivial (fun hS9 => ?_)
            clear hK K hS9
            try simp only [Act.put]
            refine wpAnyH_take (i := 9) (v := .pointer (some ⟨w.heap.size, 0, none⟩)) rfl (by kernel_rfl) (by kernel_rfl) (by kernel_rfl) (fun _ _ _ h => h) (Or.inl ⟨by rfl, fun w' h => by go_simp⟩) trivial ?_
            simp only [Act.put]
            refine wpAnyH_take (i := 10) (v := .pointer (some ⟨w.heap.size, 0, none⟩)) rfl (by kernel_rfl) (by kernel_rfl) (by kernel_rfl) (fun _ _ _ h => h) (Or.inl ⟨by rfl, fun w' h => by go_simp⟩) trivial ?_
            simp only [Act.put]
            refine wpAnyH_ready (rs := [11]) (by kernel_rfl) (by simp) (AllReadyH.cons rfl (fun K hK => ?_) AllReadyH.nil)
            go_simp
            refine hK.out _ _ trivial (fun hS9 => ?_)
            clear hK K hS9
            refine wpAnyH_done (by kernel_rfl) ?_ _
            clear HM HR3 c1 c2 c3 c1b c1c
            go_wp2
            go_roundw
            case rel => exact ⟨k + 1, _, _, _, by omega, by go_num, HU3.out, B3.out⟩
            case measure => simp [intOf]; omega
        · go_simp
          refine hK.out _ _ trivial (fun hS9 => ?_)
          clear hK K hS9
          try simp only [Act.put]
          refine wpAnyH_ready (rs := [4]) (by kernel_rfl) (by simp) (AllReadyH.cons rfl (fun K hK => ?_) AllReadyH.nil)
          · go_simp
            refine hK.out _ _ trivial (fun hS9 => ?_)
            clear hK K hS9
            try simp only [Act.put]
            refine wpAnyH_ready (rs := [8]) (by kernel_rfl) (by simp) (AllReadyH.cons rfl (fun K hK => ?_) AllReadyH.nil)
            refine step_append_run rfl _ _ 48 rfl _ _ rfl rfl HR3.out ?_
            refine hK.out _ _ trivial (fun hS9 => ?_)
            clear hK K hS9
            try simp only [Act.put]
            refine wpAnyH_take (i := 9) (v := .pointer (some ⟨w.heap.size, 0, none⟩)) rfl (by kernel_rfl) (by kernel_rfl) (by kernel_rfl) (fun _ _ _ h => h) (Or.inl ⟨by rfl, fun w' h => by go_simp⟩) trivial ?_
            simp only [Act.put]
            refine wpAnyH_take (i := 10) (v := .pointer (some ⟨w.heap.size, 0, none⟩)) rfl (by kernel_rfl) (by kernel_rfl) (by kernel_rfl) (fun _ _ _ h => h) (Or.inl ⟨by rfl, fun w' h => by go_simp⟩) trivial ?_
            simp only [Act.put]
            refine wpAnyH_ready (rs := [11]) (by kernel_rfl) (by simp) (AllReadyH.cons rfl (fun K hK => ?_) AllReadyH.nil)
            go_simp
            refine hK.out _ _ trivial (fun hS9 => ?_)
            clear hK K hS9
            refine wpAnyH_done (by kernel_rfl) ?_ _
            clear HM HR3 c1 c2 c3 c1b c1c
            go_wp2
            go_roundw
            case rel => exact ⟨k + 1, _, _, _, by omega, by go_num, HU3.out, B3.out⟩
            case measure => simp [intOf]; omega
    · obtain rfl : k = N := by omega
      have HRs : Hid (RU w.heap.size wr w.heap.size ro rc rb k k (fun _ _ => false)) := HR.out
      clear HR
      go_wp2
      go_loopw [8] (fun i wr => ∃ (m : Nat) (U : Nat → Nat → Bool), m ≤ ps.length ∧ i = .int .i64 m ∧ RU w.heap.size wr w.heap.size ro rc rb k k U ∧ ToldU (ps.take m) U ∧ InN (k : Int) (ps.take m) ∧ Below w.heap.size w wr) (fun i _ => ps.length - (intOf i).toNat)
      case atStart => exact ⟨0, fun _ _ => false, by omega, rfl, HRs.out, toldU_zero, (fun x hx => by simp at hx), B1.out⟩
      case round =>
        clear HRs B1
        obtain ⟨m, U, hm, rfl, hR, hT, hI, hbl⟩ := hrel
        have HR : Hid (RU w.heap.size wr w.heap.size ro rc rb k k U) := hR
        have HT : Hid (ToldU (ps.take m) U) := hT
        have HI : Hid (InN (k : Int) (ps.take m)) := hI
        have B1 : Hid (Below w.heap.size w wr) := hbl
        clear hR hT hI hbl
        by_cases hm2 : m < ps.length
        · obtain ⟨g, off, a, b, rfl, hab, c1, c2, ha, hb⟩ := (HP.out.later B1.out).at hm2
          have HAB : Hid (ps[m]? = some (a, b)) := hab
          clear hab
          by_cases q1 : a < 0
          · go_wp2
            go_ret2
            exact refO_err (closeE_sym HN.out.1 HN.out.2 (not_inN HAB.out (fun h => by omega))) (by decide) B1.out
          have q1b : 0 ≤ a := by omega
          by_cases q2 : (k : Int) ≤ a
          · go_wp2
            go_ret2
            exact refO_err (closeE_sym HN.out.1 HN.out.2 (not_inN HAB.out (fun h => by omega))) (by decide) B1.out
          have q2b : a < (k : Int) := by omega
          by_cases q3 : b < 0
          · go_wp2
            go_ret2
            exact refO_err (closeE_sym HN.out.1 HN.out.2 (not_inN HAB.out (fun h => by omega))) (by decide) B1.out
          have q3b : 0 ≤ b := by omega
          by_cases q4 : (k : Int) ≤ b
          · go_wp2
            go_ret2
            exact refO_err (closeE_sym HN.out.1 HN.out.2 (not_inN HAB.out (fun h => by omega))) (by decide) B1.out
          have q4b : b < (k : Int) := by omega
          obtain ⟨F, rfl⟩ := Int.eq_ofNat_of_zero_le q1b
          obtain ⟨G, rfl⟩ := Int.eq_ofNat_of_zero_le q3b
          have hF : F < k := by omega
          have hG : G < k := by omega
          have HI2 : Hid (InN (k : Int) (ps.take (m + 1))) := inN_take_step HI.out HAB.out ⟨q1b, q2b⟩ ⟨q3b, q4b⟩
          have HT2 : Hid (ToldU (ps.take (m + 1)) (updB U F G true)) := by rw [take_get HAB.out]; exact toldU_step HT.out F G
          obtain ⟨gr, hro, hrc, hrow⟩ := HR.out.form (by omega)
          subst hro
          have c3 := HR.out.cellP
          have c4 := hrow F hF
          have c5 := HR.out.bit hF hG
          have c6 := HR.out.free hF G
          have HR2 := hidP (HR.out.set hF G true)
          have B2 := hidP (B1.out.setCell (p := ⟨rb F, G, none⟩) (HR.out.low F hF) (.bool true))
          clear hrow HT HI
          go_wp2
          go_region
          go_wp2
          go_roundw
          case rel => exact ⟨m + 1, _, by omega, by go_num, HR2.out.later (Below.refl _ _).drew, HT2.out, HI2.out, B2.out.drew⟩
          case measure => simp [intOf]; omega
        · obtain rfl : m = ps.length := by omega
          have hT := HT.out
          have hI := HI.out
          rw [List.take_length] at hT hI
          have HI2 := hidP hI
          have HW : Hid (War (PR ps) k 0 U) := hT.war hI
          clear hT hI HT HI
          go_wp2
          go_loopw [9] (fun i wr => ∃ (c : Nat) (U : Nat → Nat → Bool), c ≤ k ∧ i = .int .i64 c ∧ RU w.heap.size wr w.heap.size ro rc rb k k U ∧ War (PR ps) k c U ∧ Below w.heap.size w wr) (fun i _ => k - (intOf i).toNat)
          case atStart => exact ⟨0, U, by omega, rfl, HR.out, HW.out, B1.out⟩
          case round =>
            clear HR HW B1
            obtain ⟨c, W, hc, rfl, hR, hW, hbl⟩ := hrel
            have HR : Hid (RU w.heap.size wr w.heap.size ro rc rb k k W) := hR
            have HW : Hid (War (PR ps) k c W) := hW
            have B1 : Hid (Below w.heap.size w wr) := hbl
            clear hR hW hbl
            by_cases hc2 : c < k
            · have hcd : decide ((c : Int) < (k : Int)) = true := by simp; omega
              go_wp2
              go_loopw [10] (fun x wr => ∃ i : Nat, i ≤ k ∧ x = .int .i64 i ∧ RU w.heap.size wr w.heap.size ro rc rb k k (stp W c i 0) ∧ Below w.heap.size w wr) (fun x _ => k - (intOf x).toNat)
              case atStart => exact ⟨0, by omega, rfl, by rw [stp_start]; exact HR.out, B1.out⟩
              case round =>
                clear HR B1
                obtain ⟨i, hi, rfl, hR, hbl⟩ := hrel
                have HR : Hid (RU w.heap.size wr w.heap.size ro rc rb k k (stp W c i 0)) := hR
                have B1 : Hid (Below w.heap.size w wr) := hbl
                clear hR hbl
                by_cases hi2 : i < k
                · have hid : decide ((i : Int) < (k : Int)) = true := by simp; omega
                  obtain ⟨gr, hro, hrc, hrow⟩ := HR.out.form (by omega)
                  cases hWc : W i c with
                  | false =>
                    have HWc := hidP hWc
                    clear hWc
                    go_wp2
                    go_loopw [11] (fun x wr => x = .int .i64 0 ∧ RU w.heap.size wr w.heap.size ro rc rb k k (stp W c i 0) ∧ Below w.heap.size w wr) (fun _ _ => 0)
                    case atStart => exact ⟨rfl, HR.out, B1.out⟩
                    case round =>
                      clear HR B1
                      obtain ⟨rfl, hR, hbl⟩ := hrel
                      have HR2 : Hid (RU w.heap.size wr w.heap.size ro rc rb k k (stp W c (i + 1) 0)) := by rw [← stp_skip HWc.out]; exact hR
                      have B1 : Hid (Below w.heap.size w wr) := hbl
                      obtain ⟨gr', hro', hrc', hrow'⟩ := hR.form (by omega)
                      have c3 := hR.cellP
                      rw [hro'] at c3
                      have c4 := hrow' i hi2
                      have c5 := hR.bit hi2 hc2
                      rw [stp_col, HWc.out] at c5
                      clear hR hbl hro hrow hrow' hro'
                      go_wp2
                      go_roundw
                      case rel => exact ⟨i + 1, by omega, by go_num, HR2.out, B1.out⟩
                      case measure => simp [intOf]; omega
                  | true =>
                    have HWc := hidP hWc
                    clear hWc
                    go_wp2
                    go_loopw [11] (fun x wr => ∃ j : Nat, j ≤ k ∧ x = .int .i64 j ∧ RU w.heap.size wr w.heap.size ro rc rb k k (stp W c i j) ∧ Below w.heap.size w wr) (fun x _ => k - (intOf x).toNat)
                    case atStart => exact ⟨0, by omega, rfl, HR.out, B1.out⟩
                    case round =>
                      clear HR B1
                      obtain ⟨j, hj, rfl, hR, hbl⟩ := hrel
                      have HR : Hid (RU w.heap.size wr w.heap.size ro rc rb k k (stp W c i j)) := hR
                      have B1 : Hid (Below w.heap.size w wr) := hbl
                      obtain ⟨gr', hro', hrc', hrow'⟩ := hR.form (by omega)
                      have c3 := hR.cellP
                      rw [hro'] at c3
                      have c4 := hrow' i hi2
                      have c4k := hrow' c hc2
                      have c5 := hR.bit hi2 hc2
                      rw [stp_col, HWc.out] at c5
                      clear hR hbl hro hrow hrow' hro'
                      by_cases hj2 : j < k
                      · have c6 := HR.out.bit hi2 hj2
                        rw [stp_at] at c6
                        have c7 := HR.out.bit hc2 hj2
                        rw [stp_row] at c7
                        have c8 := HR.out.free hi2 j
                        have hjd : decide ((j : Int) < (k : Int)) = true := by simp; omega
                        obtain ⟨X, hX⟩ : ∃ X, (W i j || W c j) = X := ⟨_, rfl⟩
                        have HS : Hid (updB (stp W c i j) i j X = stp W c i (j + 1)) := by rw [← hX]; exact stp_step HWc.out
                        have hR9 := HR.out.set hi2 j X
                        rw [HS.out] at hR9
                        have HR9 := hidP hR9
                        have B9 := hidP (B1.out.setCell (p := ⟨rb i, j, none⟩) (HR.out.low i hi2) (.bool X))
                        clear hR9
                        cases hWij : W i j with
                        | true =>
                          obtain rfl : X = true := by rw [← hX, hWij]; rfl
                          rw [hWij] at c6
                          clear hX hWij
                          go_wp2
                          go_region
                          go_wp2
                          go_roundw
                          case rel => exact ⟨j + 1, by omega, by go_num, HR9.out.later (Below.refl _ _).drew, B9.out.drew⟩
                          case measure => simp [intOf]; omega
                        | false =>
                          have hX2 : W c j = X := by rw [← hX, hWij]; rfl
                          rw [hWij] at c6
                          rw [hX2] at c7
                          clear hX hWij hX2
                          go_wp2
                          go_region
                          go_wp2
                          go_roundw
                          case rel => exact ⟨j + 1, by omega, by go_num, HR9.out.later (Below.refl _ _).drew, B9.out.drew⟩
                          case measure => simp [intOf]; omega
                      · obtain rfl : j = k := by omega
                        have HR9 : Hid (RU w.heap.size wr w.heap.size ro rc rb j j (stp W c (i + 1) 0)) := HR.out.congr (fun a b _ hb => stp_next W c i j a b hb)
                        have hjd : decide ((j : Int) < (j : Int)) = false := by simp
                        go_wp2
                        go_roundw
                        case rel => exact ⟨i + 1, by omega, by go_num, HR9.out, B1.out⟩
                        case measure => simp [intOf]; omega
                · obtain rfl : i = k := by omega
                  have HW2 : Hid (War (PR ps) i (c + 1) (stp W c i 0)) := HW.out.next hc2
                  go_wp2
                  go_roundw
                  case rel => exact ⟨c + 1, _, by omega, by go_num, HR.out, HW2.out, B1.out⟩
                  case measure => simp [intOf]; omega
            · obtain rfl : c = k := by omega
              have HUp := hidP (fun i j => HW.out.up i j)
              go_wp2
              go_loopw [12] (fun x wr => ∃ i : Nat, i ≤ c ∧ x = .int .i64 i ∧ (∀ a, a < i → W a a = false) ∧ RU w.heap.size wr w.heap.size ro rc rb c c W ∧ Below w.heap.size w wr) (fun x _ => c - (intOf x).toNat)
              case atStart => exact ⟨0, by omega, rfl, (fun a h => by omega), HR.out, B1.out⟩
              case round =>
                clear HR B1
                obtain ⟨i, hi, rfl, hno, hR, hbl⟩ := hrel
                have HNo := hidP hno
                have HR := hidP hR
                have B1 := hidP hbl
                clear hno hR hbl
                by_cases hi2 : i < c
                · obtain ⟨gr', hro', hrc', hrow'⟩ := HR.out.form (by omega)
                  have c3 := HR.out.cellP
                  rw [hro'] at c3
                  have c4 := hrow' i hi2
                  have c5 := HR.out.bit hi2 hi2
                  clear hrow' hro'
                  cases hWi : W i i with
                  | true =>
                    rw [hWi] at c5
                    have HX : Hid (∃ i, Up ps i i) := ⟨i, (HUp.out i i).1 ⟨hi2, hi2, hWi⟩⟩
                    clear hWi
                    go_wp2
                    go_ret2
                    exact refO_err (closeE_cyc HN.out.1 HN.out.2 HI2.out HX.out) (by decide) B1.out
                  | false =>
                    rw [hWi] at c5
                    have HNo2 : Hid (∀ a, a < i + 1 → W a a = false) := fun a ha => by by_cases e : a = i; rw [e]; exact hWi; exact HNo.out a (by omega)
                    clear hWi
                    go_wp2
                    go_roundw
                    case rel => exact ⟨i + 1, by omega, by go_num, HNo2.out, HR.out, B1.out⟩
                    case measure => simp [intOf]; omega
                · obtain rfl : i = c := by omega
                  have HX : Hid (∀ a, ¬ Up ps a a) := fun a ha => by
                    obtain ⟨h1, _, h3⟩ := (HUp.out a a).2 ha
                    rw [HNo.out a h1] at h3
                    cases h3
                  go_wp2
                  go_ret2
                  exact ⟨B1.out, .inr ⟨closeE_ok HN.out.1 HN.out.2 HI2.out HX.out, w.heap.size, rfl, w.heap.size, w.heap.size, ro, rc, rb, i, W, rfl, HR.out, HUp.out⟩⟩

end Go.Proofs.Ytagndlcpcggmpaa
