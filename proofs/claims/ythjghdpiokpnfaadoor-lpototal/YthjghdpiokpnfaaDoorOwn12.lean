/- Texts of the proof, one behind the other. -/
import Derived.Test.YthjghdpiokpnfaaDoorOwn11
import Derived.Test.YthjghdpiokpnfaaDoorOwn8
import Derived.Test.YthjghdpiokpnfaaDoorOwn3
/- The document's Close of layer 10. -/
namespace Go.Proofs.YthjghdpiokpnfaaDoor
open Go.RowKit Go.Maps

/-- The document's precedence of these pairs. -/
def Rc (w : World) (v : Value) (ps : List (Int × Int)) : Prop := ∃ base gp ro rc rb N U, v = .pointer (some ⟨gp, 0, none⟩) ∧ RUP base w gp ro rc rb N N U ∧ ∀ i j, (i < N ∧ j < N ∧ U i j = true) ↔ Up ps i j

theorem Rc.later {w w' : World} {v : Value} {ps : List (Int × Int)} (h : Rc w v ps) (hb : Below w.heap.size w w') : Rc w' v ps := by
  obtain ⟨base, gp, ro, rc, rb, N, U, hv, h1, h2⟩ := h
  exact ⟨base, gp, ro, rc, rb, N, U, hv, h1.later hb, h2⟩

/-- What the document's Close answers. -/
def RefO (n : Int) (ps : List (Int × Int)) (w : World) (e : Ending) (w' : World) : Prop :=
  Below w.heap.size w w' ∧ ((closeE n ps ≠ 0 ∧ e = .returned (.tuple #[.pointer none, .int .i64 (closeE n ps)])) ∨ (closeE n ps = 0 ∧ ∃ g, e = .returned (.tuple #[.pointer (some ⟨g, 0, none⟩), .int .i64 0]) ∧ Rc w' (.pointer (some ⟨g, 0, none⟩)) ps))

theorem refO_err {n c : Int} {ps : List (Int × Int)} {w w' : World} (hE : closeE n ps = c) (hc : c ≠ 0) (hb : Below w.heap.size w w') : RefO n ps w (.returned (.tuple #[.pointer none, .int .i64 c])) w' :=
  ⟨hb, .inl ⟨by rw [hE]; exact hc, by rw [hE]⟩⟩

theorem ru_start (w : World) (n : Nat) : RUP w.heap.size (w.alloc (.cells #[.slice none 0 0] 96)) w.heap.size none 0 (fun _ => 0) n 0 (fun _ _ => false) :=
  ⟨heap_alloc_new _ _, Nat.le_refl _, ⟨rfl, .inl ⟨rfl, rfl⟩⟩, fun _ h => by omega, fun _ h => by omega, fun _ _ h => by omega⟩

set_option maxRecDepth 100000 in
set_option maxHeartbeats 6400000 in
theorem refClose_any (n : Int) (v : Value) (ps : List (Int × Int)) (w : World) (h : Prs w v ps) :
    Calls Tryd.prog 22 #[.int .i64 n, v] w (RefO n ps w) := by
  obtain ⟨ao, cap, rfl, hcap, hcm, _⟩ := Row.flat h
  unfold maxLen at hcm
  have HP : Hid (Prs w (.slice ao ps.length cap) ps) := h
  clear h
  by_cases hn0 : n < 0
  · go_enter Tryd.func22, Tryd.ntmps22
    go_wp2
    go_ret2
    exact refO_err (closeE_arg (.inl hn0)) (by decide) (Below.refl _ _)
  by_cases hn1 : 128 < n
  · go_enter Tryd.func22, Tryd.ntmps22
    go_wp2
    go_ret2
    exact refO_err (closeE_arg (.inr hn1)) (by decide) (Below.refl _ _)
  obtain ⟨N, rfl⟩ := Int.eq_ofNat_of_zero_le (show 0 ≤ n by omega)
  have hN : N ≤ 128 := by omega
  have hd0 : decide ((N : Int) < 0) = false := by simp
  have hd1 : decide (128 < (N : Int)) = false := by simp; omega
  have HN : Hid ((0 : Int) ≤ (N : Int) ∧ (N : Int) ≤ 128) := by constructor <;> omega
  clear hn0 hn1
  go_enter Tryd.func22, Tryd.ntmps22
  go_wp2
  go_loopw [7] (fun i wr => ∃ (k : Nat) (ro : Option Addr) (rc : Nat) (rb : Nat → Nat), k ≤ N ∧ i = .int .i64 k ∧ RUP w.heap.size wr w.heap.size ro rc rb N k (fun _ _ => false) ∧ Below w.heap.size w wr) (fun i _ => N - (intOf i).toNat)
  case atStart => exact ⟨0, none, 0, fun _ => 0, by omega, rfl, ru_start w N, below_alloc _⟩
  case round =>
    obtain ⟨k, ro, rc, rb, hk, rfl, hR, hbl⟩ := hrel
    have HR : Hid (RUP w.heap.size wr w.heap.size ro rc rb N k (fun _ _ => false)) := hR
    have B1 : Hid (Below w.heap.size w wr) := hbl
    clear hR hbl
    by_cases hk2 : k < N
    · go_wp2_with fail
      refine wp_region_held_drew (S := fun _ => True) (by kernel_rfl) trivial (fun _ => ?_)
      obtain ⟨wd, hwd⟩ : ∃ X, X = wr.drew := ⟨_, rfl⟩
      have HR2 : Hid (RUP w.heap.size wd w.heap.size ro rc rb N k (fun _ _ => false)) := by rw [hwd]; exact HR.out.later (Below.refl _ _).drew
      have B2 : Hid (Below w.heap.size w wd) := by rw [hwd]; exact B1.out.drew
      rw [← hwd]
      clear hwd HR B1
      obtain ⟨ro', rc', w3, hr3, c2, c3, hR3, hB3⟩ := ru_grow HR2.out B2.out.size (by omega) B2.out (Nat.le_refl _)
      have c1 := HR2.out.cellP
      have c1b := (Kp.of_below (below_alloc (w := wd) (.cells (rowB N (fun _ => false)) 4))).cell _ _ c1
      have c1c := (Kp.of_below (below_alloc (w := wd.alloc (.cells (rowB N (fun _ => false)) 4)) (.cells #[.slice (some ⟨wd.heap.size, 0, none⟩) N N] 74))).cell _ _ c1b
      have HR3 := hidP hr3
      have HM := hidP (run_make_bool wd N hN)
      have HU3 := hidP hR3
      have B3 := hidP hB3
      clear hr3 hR3 hB3
      refine wpAnyH_take (i := 0) (v := .pointer (some ⟨w.heap.size, 0, none⟩)) rfl (by kernel_rfl) (by kernel_rfl) (by kernel_rfl) (fun _ _ _ h => h) (Or.inl ⟨by rfl, fun w' h => by go_simp⟩) trivial ?_
      simp only [Act.put, List.setIfInBounds_toArray]
      refine wpAnyH_take (i := 1) (v := .pointer (some ⟨w.heap.size, 0, none⟩)) rfl (by kernel_rfl) (by kernel_rfl) (by kernel_rfl) (fun _ _ _ h => h) (Or.inl ⟨by rfl, fun w' h => by go_simp⟩) trivial ?_
      simp only [Act.put]
      refine wpAnyH_take (i := 2) (v := .pointer (some ⟨w.heap.size, 0, none⟩)) rfl (by kernel_rfl) (by kernel_rfl) (by kernel_rfl) (fun _ _ _ h => h) (Or.inl ⟨by rfl, fun w' h => by go_simp⟩) trivial ?_
      simp only [Act.put]
      refine wpAnyH_take (i := 3) (v := .pointer (some ⟨w.heap.size, 0, none⟩)) rfl (by kernel_rfl) (by kernel_rfl) (by kernel_rfl) (fun _ _ _ h => h) (Or.inl ⟨by rfl, fun w' h => by go_simp⟩) trivial ?_
      simp only [Act.put]
      refine wpAnyH_take (i := 5) (v := .int .i64 (N : Int)) rfl (by kernel_rfl) (by kernel_rfl) (by kernel_rfl) (fun _ _ _ h => h) (Or.inl ⟨by rfl, fun w' h => by go_simp⟩) trivial ?_
      simp only [Act.put]
      refine wpAnyH_ready (rs := [4, 6]) (by kernel_rfl) (by simp) (AllReadyH.cons rfl (fun K hK => ?_) (AllReadyH.cons rfl (fun K hK => ?_) AllReadyH.nil))
      · go_simp
        refine hK.out _ _ trivial (fun hS9 => ?_)
        clear hK K hS9
        try simp only [Act.put]
        refine wpAnyH_ready (rs := [6]) (by kernel_rfl) (by simp) (AllReadyH.cons rfl (fun K hK => ?_) AllReadyH.nil)
        · have hm := HM.out
          go_simp
          refine hK.out _ _ trivial (fun hS9 => ?_)
          clear hK K hS9 hm
          try simp only [Act.put]
          refine wpAnyH_ready (rs := [7]) (by kernel_rfl) (by simp) (AllReadyH.cons rfl (fun K hK => ?_) AllReadyH.nil)
          · go_simp
            refine hK.out _ _ trivial (fun hS9 => ?_)
            clear hK K hS9
            try simp only [Act.put]
            refine wpAnyH_ready (rs := [8]) (by kernel_rfl) (by simp) (AllReadyH.cons rfl (fun K hK => ?_) AllReadyH.nil)
            refine step_append_run rfl _ _ 71 rfl _ _ rfl rfl HR3.out ?_
            refine hK.out _ _ trivial (fun hS9 => ?_)
            clear hK K hS9
            try simp only [Act.put]
            refine wpAnyH_take (i := 9) (v := .pointer (some ⟨w.heap.size, 0, none⟩)) rfl (by kernel_rfl) (by kernel_rfl) (by kernel_rfl) (fun _ _ _ h => h) (Or.inl ⟨by rfl, fun w' h => by go_simp⟩) trivial ?_
            simp only [Act.put]
            refine wpAnyH_take (i := 10) (v := .pointer (some ⟨w.heap.size, 0, none⟩)) rfl (by kernel_rfl) (by kernel_rfl) (by kernel_rfl) (fun _ _ _ h => h) (Or.inl ⟨by rfl, fun w' h => by go_simp⟩) trivial ?_
            simp only [Act.put]
            refine wpAnyH_ready (rs := [11]) (by kernel_rfl) (by simp) (AllReadyH.cons rfl (fun K hK => ?_) AllReadyH.nil)
            go_simp
            refine hK.out _ _ trivial (fun hS9 => ?_)
            clear hK K hS9
            refine wpAnyH_done (by kernel_rfl) ?_ _
            clear HM HR3 c1 c2 c3 c1b c1c
            go_wp2
            go_roundw
            case rel => exact ⟨k + 1, _, _, _, by omega, by go_num, HU3.out, B3.out⟩
            case measure => simp [intOf]; omega
      · have hm := HM.out
        go_simp
        refine hK.out _ _ trivial (fun hS9 => ?_)
        clear hK K hS9 hm
        try simp only [Act.put]
        refine wpAnyH_ready (rs := [4, 7]) (by kernel_rfl) (by simp) (AllReadyH.cons rfl (fun K hK => ?_) (AllReadyH.cons rfl (fun K hK => ?_) AllReadyH.nil))
        · go_simp
          refine hK.out _ _ trivial (fun hS9 => ?_)
          clear hK K hS9
          try simp only [Act.put]
          refine wpAnyH_ready (rs := [7]) (by kernel_rfl) (by simp) (AllReadyH.cons rfl (fun K hK => ?_) AllReadyH.nil)
          · go_simp
            refine hK.out _ _ trivial (fun hS9 => ?_)
            clear hK K hS9
            try simp only [Act.put]
            refine wpAnyH_ready (rs := [8]) (by kernel_rfl) (by simp) (AllReadyH.cons rfl (fun K hK => ?_) AllReadyH.nil)
            refine step_append_run rfl _ _ 71 rfl _ _ rfl rfl HR3.out ?_
            refine hK.out _ _ trivial (fun hS9 => ?_)
            clear hK K hS9
            try simp only [Act.put]
            refine wpAnyH_take (i := 9) (v := .pointer (some ⟨w.heap.size, 0, none⟩)) rfl (by kernel_rfl) (by kernel_rfl) (by kernel_rfl) (fun _ _ _ h => h) (Or.inl ⟨by rfl, fun w' h => by go_simp⟩) trivial ?_
            simp only [Act.put]
            refine wpAnyH_take (i := 10) (v := .pointer (some ⟨w.heap.size, 0, none⟩)) rfl (by kernel_rfl) (by kernel_rfl) (by kernel_rfl) (fun _ _ _ h => h) (Or.inl ⟨by rfl, fun w' h => by go_simp⟩) trivial ?_
            simp only [Act.put]
            refine wpAnyH_ready (rs := [11]) (by kernel_rfl) (by simp) (AllReadyH.cons rfl (fun K hK => ?_) AllReadyH.nil)
            go_simp
            refine hK.out _ _ trivial (fun hS9 => ?_)
            clear hK K hS9
            refine wpAnyH_done (by kernel_rfl) ?_ _
            clear HM HR3 c1 c2 c3 c1b c1c
            go_wp2
            go_roundw
            case rel => exact ⟨k + 1, _, _, _, by omega, by go_num, HU3.out, B3.out⟩
            case measure => simp [intOf]; omega
        · go_simp
          refine hK.out _ _ trivial (fun hS9 => ?_)
          clear hK K hS9
          try simp only [Act.put]
          refine wpAnyH_ready (rs := [4]) (by kernel_rfl) (by simp) (AllReadyH.cons rfl (fun K hK => ?_) AllReadyH.nil)
          · go_simp
            refine hK.out _ _ trivial (fun hS9 => ?_)
            clear hK K hS9
            try simp only [Act.put]
            refine wpAnyH_ready (rs := [8]) (by kernel_rfl) (by simp) (AllReadyH.cons rfl (fun K hK => ?_) AllReadyH.nil)
            refine step_append_run rfl _ _ 71 rfl _ _ rfl rfl HR3.out ?_
            refine hK.out _ _ trivial (fun hS9 => ?_)
            clear hK K hS9
            try simp only [Act.put]
            refine wpAnyH_take (i := 9) (v := .pointer (some ⟨w.heap.size, 0, none⟩)) rfl (by kernel_rfl) (by kernel_rfl) (by kernel_rfl) (fun _ _ _ h => h) (Or.inl ⟨by rfl, fun w' h => by go_simp⟩) trivial ?_
            simp only [Act.put]
            refine wpAnyH_take (i := 10) (v := .pointer (some ⟨w.heap.size, 0, none⟩)) rfl (by kernel_rfl) (by kernel_rfl) (by kernel_rfl) (fun _ _ _ h => h) (Or.inl ⟨by rfl, fun w' h => by go_simp⟩) trivial ?_
            simp only [Act.put]
            refine wpAnyH_ready (rs := [11]) (by kernel_rfl) (by simp) (AllReadyH.cons rfl (fun K hK => ?_) AllReadyH.nil)
            go_simp
            refine hK.out _ _ trivial (fun hS9 => ?_)
            clear hK K hS9
            refine wpAnyH_done (by kernel_rfl) ?_ _
            clear HM HR3 c1 c2 c3 c1b c1c
            go_wp2
            go_roundw
            case rel => exact ⟨k + 1, _, _, _, by omega, by go_num, HU3.out, B3.out⟩
            case measure => simp [intOf]; omega
    · obtain rfl : k = N := by omega
      have HRs : Hid (RUP w.heap.size wr w.heap.size ro rc rb k k (fun _ _ => false)) := HR.out
      clear HR
      go_wp2
      go_loopw [8] (fun i wr => ∃ (m : Nat) (U : Nat → Nat → Bool), m ≤ ps.length ∧ i = .int .i64 m ∧ RUP w.heap.size wr w.heap.size ro rc rb k k U ∧ ToldU (ps.take m) U ∧ InN (k : Int) (ps.take m) ∧ Below w.heap.size w wr) (fun i _ => ps.length - (intOf i).toNat)
      case atStart => exact ⟨0, fun _ _ => false, by omega, rfl, HRs.out, toldU_zero, (fun x hx => by simp at hx), B1.out⟩
      case round =>
        clear HRs B1
        obtain ⟨m, U, hm, rfl, hR, hT, hI, hbl⟩ := hrel
        have HR : Hid (RUP w.heap.size wr w.heap.size ro rc rb k k U) := hR
        have HT : Hid (ToldU (ps.take m) U) := hT
        have HI : Hid (InN (k : Int) (ps.take m)) := hI
        have B1 : Hid (Below w.heap.size w wr) := hbl
        clear hR hT hI hbl
        by_cases hm2 : m < ps.length
        · obtain ⟨g, off, a, b, rfl, hab, c1, c2, ha, hb⟩ := (HP.out.later B1.out).at hm2
          have HAB : Hid (ps[m]? = some (a, b)) := hab
          clear hab
          by_cases q1 : a < 0
          · go_wp2
            go_ret2
            exact refO_err (closeE_sym HN.out.1 HN.out.2 (not_inN HAB.out (fun h => by omega))) (by decide) B1.out
          have q1b : 0 ≤ a := by omega
          by_cases q2 : (k : Int) ≤ a
          · go_wp2
            go_ret2
            exact refO_err (closeE_sym HN.out.1 HN.out.2 (not_inN HAB.out (fun h => by omega))) (by decide) B1.out
          have q2b : a < (k : Int) := by omega
          by_cases q3 : b < 0
          · go_wp2
            go_ret2
            exact refO_err (closeE_sym HN.out.1 HN.out.2 (not_inN HAB.out (fun h => by omega))) (by decide) B1.out
          have q3b : 0 ≤ b := by omega
          by_cases q4 : (k : Int) ≤ b
          · go_wp2
            go_ret2
            exact refO_err (closeE_sym HN.out.1 HN.out.2 (not_inN HAB.out (fun h => by omega))) (by decide) B1.out
          have q4b : b < (k : Int) := by omega
          obtain ⟨F, rfl⟩ := Int.eq_ofNat_of_zero_le q1b
          obtain ⟨G, rfl⟩ := Int.eq_ofNat_of_zero_le q3b
          have hF : F < k := by omega
          have hG : G < k := by omega
          have HI2 : Hid (InN (k : Int) (ps.take (m + 1))) := inN_take_step HI.out HAB.out ⟨q1b, q2b⟩ ⟨q3b, q4b⟩
          have HT2 : Hid (ToldU (ps.take (m + 1)) (updB U F G true)) := by rw [take_get HAB.out]; exact toldU_step HT.out F G
          obtain ⟨gr, hro, hrc, hrow⟩ := HR.out.form (by omega)
          subst hro
          have c3 := HR.out.cellP
          have c4 := hrow F hF
          have c5 := HR.out.bit hF hG
          have c6 := HR.out.free hF G
          have HR2 := hidP (HR.out.set hF G true)
          have B2 := hidP (B1.out.setCell (p := ⟨rb F, G, none⟩) (HR.out.low F hF) (.bool true))
          clear hrow HT HI
          go_wp2
          go_region
          go_wp2
          go_roundw
          case rel => exact ⟨m + 1, _, by omega, by go_num, HR2.out.later (Below.refl _ _).drew, HT2.out, HI2.out, B2.out.drew⟩
          case measure => simp [intOf]; omega
        · obtain rfl : m = ps.length := by omega
          have hT := HT.out
          have hI := HI.out
          rw [List.take_length] at hT hI
          have HI2 := hidP hI
          have HW : Hid (War (PR ps) k 0 U) := hT.war hI
          clear hT hI HT HI
          go_wp2
          go_loopw [9] (fun i wr => ∃ (c : Nat) (U : Nat → Nat → Bool), c ≤ k ∧ i = .int .i64 c ∧ RUP w.heap.size wr w.heap.size ro rc rb k k U ∧ War (PR ps) k c U ∧ Below w.heap.size w wr) (fun i _ => k - (intOf i).toNat)
          case atStart => exact ⟨0, U, by omega, rfl, HR.out, HW.out, B1.out⟩
          case round =>
            clear HR HW B1
            obtain ⟨c, W, hc, rfl, hR, hW, hbl⟩ := hrel
            have HR : Hid (RUP w.heap.size wr w.heap.size ro rc rb k k W) := hR
            have HW : Hid (War (PR ps) k c W) := hW
            have B1 : Hid (Below w.heap.size w wr) := hbl
            clear hR hW hbl
            by_cases hc2 : c < k
            · have hcd : decide ((c : Int) < (k : Int)) = true := by simp; omega
              go_wp2
              go_loopw [10] (fun x wr => ∃ i : Nat, i ≤ k ∧ x = .int .i64 i ∧ RUP w.heap.size wr w.heap.size ro rc rb k k (stp W c i 0) ∧ Below w.heap.size w wr) (fun x _ => k - (intOf x).toNat)
              case atStart => exact ⟨0, by omega, rfl, by rw [stp_start]; exact HR.out, B1.out⟩
              case round =>
                clear HR B1
                obtain ⟨i, hi, rfl, hR, hbl⟩ := hrel
                have HR : Hid (RUP w.heap.size wr w.heap.size ro rc rb k k (stp W c i 0)) := hR
                have B1 : Hid (Below w.heap.size w wr) := hbl
                clear hR hbl
                by_cases hi2 : i < k
                · have hid : decide ((i : Int) < (k : Int)) = true := by simp; omega
                  obtain ⟨gr, hro, hrc, hrow⟩ := HR.out.form (by omega)
                  cases hWc : W i c with
                  | false =>
                    have HWc := hidP hWc
                    clear hWc
                    go_wp2
                    go_loopw [11] (fun x wr => x = .int .i64 0 ∧ RUP w.heap.size wr w.heap.size ro rc rb k k (stp W c i 0) ∧ Below w.heap.size w wr) (fun _ _ => 0)
                    case atStart => exact ⟨rfl, HR.out, B1.out⟩
                    case round =>
                      clear HR B1
                      obtain ⟨rfl, hR, hbl⟩ := hrel
                      have HR2 : Hid (RUP w.heap.size wr w.heap.size ro rc rb k k (stp W c (i + 1) 0)) := by rw [← stp_skip HWc.out]; exact hR
                      have B1 : Hid (Below w.heap.size w wr) := hbl
                      obtain ⟨gr', hro', hrc', hrow'⟩ := hR.form (by omega)
                      have c3 := hR.cellP
                      rw [hro'] at c3
                      have c4 := hrow' i hi2
                      have c5 := hR.bit hi2 hc2
                      rw [stp_col, HWc.out] at c5
                      clear hR hbl hro hrow hrow' hro'
                      go_wp2
                      go_roundw
                      case rel => exact ⟨i + 1, by omega, by go_num, HR2.out, B1.out⟩
                      case measure => simp [intOf]; omega
                  | true =>
                    have HWc := hidP hWc
                    clear hWc
                    go_wp2
                    go_loopw [11] (fun x wr => ∃ j : Nat, j ≤ k ∧ x = .int .i64 j ∧ RUP w.heap.size wr w.heap.size ro rc rb k k (stp W c i j) ∧ Below w.heap.size w wr) (fun x _ => k - (intOf x).toNat)
                    case atStart => exact ⟨0, by omega, rfl, HR.out, B1.out⟩
                    case round =>
                      clear HR B1
                      obtain ⟨j, hj, rfl, hR, hbl⟩ := hrel
                      have HR : Hid (RUP w.heap.size wr w.heap.size ro rc rb k k (stp W c i j)) := hR
                      have B1 : Hid (Below w.heap.size w wr) := hbl
                      obtain ⟨gr', hro', hrc', hrow'⟩ := hR.form (by omega)
                      have c3 := hR.cellP
                      rw [hro'] at c3
                      have c4 := hrow' i hi2
                      have c4k := hrow' c hc2
                      have c5 := hR.bit hi2 hc2
                      rw [stp_col, HWc.out] at c5
                      clear hR hbl hro hrow hrow' hro'
                      by_cases hj2 : j < k
                      · have c6 := HR.out.bit hi2 hj2
                        rw [stp_at] at c6
                        have c7 := HR.out.bit hc2 hj2
                        rw [stp_row] at c7
                        have c8 := HR.out.free hi2 j
                        have hjd : decide ((j : Int) < (k : Int)) = true := by simp; omega
                        obtain ⟨X, hX⟩ : ∃ X, (W i j || W c j) = X := ⟨_, rfl⟩
                        have HS : Hid (updB (stp W c i j) i j X = stp W c i (j + 1)) := by rw [← hX]; exact stp_step HWc.out
                        have hR9 := HR.out.set hi2 j X
                        rw [HS.out] at hR9
                        have HR9 := hidP hR9
                        have B9 := hidP (B1.out.setCell (p := ⟨rb i, j, none⟩) (HR.out.low i hi2) (.bool X))
                        clear hR9
                        cases hWij : W i j with
                        | true =>
                          obtain rfl : X = true := by rw [← hX, hWij]; rfl
                          rw [hWij] at c6
                          clear hX hWij
                          go_wp2
                          go_region
                          go_wp2
                          go_roundw
                          case rel => exact ⟨j + 1, by omega, by go_num, HR9.out.later (Below.refl _ _).drew, B9.out.drew⟩
                          case measure => simp [intOf]; omega
                        | false =>
                          have hX2 : W c j = X := by rw [← hX, hWij]; rfl
                          rw [hWij] at c6
                          rw [hX2] at c7
                          clear hX hWij hX2
                          go_wp2
                          go_region
                          go_wp2
                          go_roundw
                          case rel => exact ⟨j + 1, by omega, by go_num, HR9.out.later (Below.refl _ _).drew, B9.out.drew⟩
                          case measure => simp [intOf]; omega
                      · obtain rfl : j = k := by omega
                        have HR9 : Hid (RUP w.heap.size wr w.heap.size ro rc rb j j (stp W c (i + 1) 0)) := HR.out.congr (fun a b _ hb => stp_next W c i j a b hb)
                        have hjd : decide ((j : Int) < (j : Int)) = false := by simp
                        go_wp2
                        go_roundw
                        case rel => exact ⟨i + 1, by omega, by go_num, HR9.out, B1.out⟩
                        case measure => simp [intOf]; omega
                · obtain rfl : i = k := by omega
                  have HW2 : Hid (War (PR ps) i (c + 1) (stp W c i 0)) := HW.out.next hc2
                  go_wp2
                  go_roundw
                  case rel => exact ⟨c + 1, _, by omega, by go_num, HR.out, HW2.out, B1.out⟩
                  case measure => simp [intOf]; omega
            · obtain rfl : c = k := by omega
              have HUp := hidP (fun i j => HW.out.up i j)
              go_wp2
              go_loopw [12] (fun x wr => ∃ i : Nat, i ≤ c ∧ x = .int .i64 i ∧ (∀ a, a < i → W a a = false) ∧ RUP w.heap.size wr w.heap.size ro rc rb c c W ∧ Below w.heap.size w wr) (fun x _ => c - (intOf x).toNat)
              case atStart => exact ⟨0, by omega, rfl, (fun a h => by omega), HR.out, B1.out⟩
              case round =>
                clear HR B1
                obtain ⟨i, hi, rfl, hno, hR, hbl⟩ := hrel
                have HNo := hidP hno
                have HR := hidP hR
                have B1 := hidP hbl
                clear hno hR hbl
                by_cases hi2 : i < c
                · obtain ⟨gr', hro', hrc', hrow'⟩ := HR.out.form (by omega)
                  have c3 := HR.out.cellP
                  rw [hro'] at c3
                  have c4 := hrow' i hi2
                  have c5 := HR.out.bit hi2 hi2
                  clear hrow' hro'
                  cases hWi : W i i with
                  | true =>
                    rw [hWi] at c5
                    have HX : Hid (∃ i, Up ps i i) := ⟨i, (HUp.out i i).1 ⟨hi2, hi2, hWi⟩⟩
                    clear hWi
                    go_wp2
                    go_ret2
                    exact refO_err (closeE_cyc HN.out.1 HN.out.2 HI2.out HX.out) (by decide) B1.out
                  | false =>
                    rw [hWi] at c5
                    have HNo2 : Hid (∀ a, a < i + 1 → W a a = false) := fun a ha => by by_cases e : a = i; rw [e]; exact hWi; exact HNo.out a (by omega)
                    clear hWi
                    go_wp2
                    go_roundw
                    case rel => exact ⟨i + 1, by omega, by go_num, HNo2.out, HR.out, B1.out⟩
                    case measure => simp [intOf]; omega
                · obtain rfl : i = c := by omega
                  have HX : Hid (∀ a, ¬ Up ps a a) := fun a ha => by
                    obtain ⟨h1, _, h3⟩ := (HUp.out a a).2 ha
                    rw [HNo.out a h1] at h3
                    cases h3
                  go_wp2
                  go_ret2
                  exact ⟨B1.out, .inr ⟨closeE_ok HN.out.1 HN.out.2 HI2.out HX.out, w.heap.size, rfl, w.heap.size, w.heap.size, ro, rc, rb, i, W, rfl, HR.out, HUp.out⟩⟩

end Go.Proofs.YthjghdpiokpnfaaDoor

/- Rows of pairs written over; whatever is of another type stays. -/
namespace Go.Proofs.YthjghdpiokpnfaaDoor
open Go.RowKit Go.Maps

theorem cellsQ_set : ∀ (ps : List (Int × Int)) (k : Nat) (x : Int × Int), k < ps.length → ((cellsQ ps).set (k * 2) (.int .i64 x.1)).set (k * 2 + 1) (.int .i64 x.2) = cellsQ (ps.set k x)
  | [], k, x, h => by simp at h
  | y :: ps, 0, x, _ => rfl
  | y :: ps, k + 1, x, h => by
    have e : cellsQ (y :: ps) = .int .i64 y.1 :: .int .i64 y.2 :: cellsQ ps := rfl
    have e2 : cellsQ ((y :: ps).set (k + 1) x) = .int .i64 y.1 :: .int .i64 y.2 :: cellsQ (ps.set k x) := rfl
    rw [e, e2, show (k + 1) * 2 = k * 2 + 1 + 1 by omega]
    simp only [List.set_cons_succ]
    rw [cellsQ_set ps k x (by simpa using h)]

theorem OwQ.put {w : World} {base g cap : Nat} {M : List (Int × Int)} (h : OwQ w base (.slice (some ⟨g, 0, none⟩) M.length cap) M) {k : Nat} (hk : k < M.length) {a b : Int} (ha : -9223372036854775808 ≤ a ∧ a ≤ 9223372036854775807) (hb : -9223372036854775808 ≤ b ∧ b ≤ 9223372036854775807) :
    OwQ ((w.setCell ⟨g, k * 2, none⟩ (.int .i64 a)).setCell ⟨g, k * 2 + 1, none⟩ (.int .i64 b)) base (.slice (some ⟨g, 0, none⟩) M.length cap) (M.set k (a, b)) := by
  have h1 := (World.ownsRow.stored h.2 (k * 2) (.int .i64 a)).1
  have h2 := (World.ownsRow.stored h1 (k * 2 + 1) (.int .i64 b)).1
  refine ⟨fun j x hj => ?_, ?_⟩
  · rw [List.getElem?_set] at hj
    split at hj
    · cases hj
      exact ⟨ha, hb⟩
    · exact h.1 j x hj
  · rw [cellsQ_set M k (a, b) hk] at h2
    rw [List.length_set]
    exact h2

theorem OwQ.blk {w : World} {base g cap n : Nat} {M : List (Int × Int)} (h : OwQ w base (.slice (some ⟨g, 0, none⟩) n cap) M) : base ≤ g ∧ ∃ c, w.heap[g]? = some (.cells c 54 (0, 0)) := by
  rcases h.2.2 with ⟨hv, _⟩ | ⟨g', cap', cur, hv, hb, hg, _⟩
  · cases hv
  · cases hv
    exact ⟨hb, cur, hg⟩

theorem Pc.put {w : World} {v : Value} {ps : List (Int × Int)} (h : Pc w v ps) {g k : Nat} {u : Value} (hg : ∃ c, w.heap[g]? = some (.cells c 54 (0, 0))) : Pc (w.setCell ⟨g, k, none⟩ u) v ps := by
  obtain ⟨c, hg⟩ := hg
  obtain ⟨gp, T, hv, h1, h2, h3⟩ := h
  exact ⟨gp, T, hv, h1, (heap_setCell_other _ _ _ _ (type_ne h2 hg (by decide))).trans h2, h3⟩

theorem Rc.put {w : World} {v : Value} {ps : List (Int × Int)} (h : Rc w v ps) {g k : Nat} {u : Value} (hg : ∃ c, w.heap[g]? = some (.cells c 54 (0, 0))) : Rc (w.setCell ⟨g, k, none⟩ u) v ps := by
  obtain ⟨c, hg⟩ := hg
  obtain ⟨base, gp, ro, rc, rb, N, U, hv, h1, h2⟩ := h
  refine ⟨base, gp, ro, rc, rb, N, U, hv, ⟨(heap_setCell_other _ _ _ _ (type_ne h1.ptr hg (by decide))).trans h1.ptr, h1.lo, ⟨h1.own.1, ?_⟩, fun i hi => (heap_setCell_other _ _ _ _ (type_ne (h1.rows i hi) hg (by decide))).trans (h1.rows i hi), h1.low, h1.inj⟩, h2⟩
  rcases h1.own.2 with h0 | ⟨g', cap, cur, hv', hb, hg', r⟩
  · exact .inl h0
  · exact .inr ⟨g', cap, cur, hv', hb, (heap_setCell_other _ _ _ _ (type_ne hg' hg (by decide))).trans hg', r⟩

theorem pair_put {w : World} {g k : Nat} {u : Value} (hg : ∃ c, w.heap[g]? = some (.cells c 54 (0, 0))) : ∃ c, (w.setCell ⟨g, k, none⟩ u).heap[g]? = some (.cells c 54 (0, 0)) := by
  obtain ⟨c, hg⟩ := hg
  exact ⟨_, heap_setCell_same w g k _ _ u hg⟩

/-- The row written over as far as k. -/
def ovr (ps : List (Int × Int)) (k : Nat) : List (Int × Int) := List.replicate k (0, 1) ++ ps.drop k

theorem ovr_len {ps : List (Int × Int)} {k : Nat} (h : k ≤ ps.length) : (ovr ps k).length = ps.length := by simp [ovr]; omega

theorem ovr_at (ps : List (Int × Int)) (k : Nat) : (ovr ps k)[k]? = ps[k]? := by
  unfold ovr
  rw [List.getElem?_append_right (by simp), List.length_replicate, Nat.sub_self, List.getElem?_drop, Nat.add_zero]

theorem ovr_step {ps : List (Int × Int)} {k : Nat} (h : k < ps.length) : (ovr ps k).set k (0, 1) = ovr ps (k + 1) := by
  unfold ovr
  rw [List.drop_eq_getElem_cons h, List.set_append_right _ _ (by simp), List.length_replicate, Nat.sub_self, List.set_cons_zero, List.replicate_succ', List.append_assoc]
  rfl

theorem run_eq_pair (w : World) (a b : Int) : (Op.equalIn 10000 54 (.agg #[.int .i64 a, .int .i64 b]) (.agg #[.int .i64 a, .int .i64 b])).run Tryd.prog w = .ok true w := by
  obtain ⟨i, hi, _, _, _⟩ := info_parts3 info_int
  have hu : Tryd.prog.underlying 3 = some (.int .i64) := by kernel_rfl
  have hp : Tryd.prog.underlying 54 = some (.array 2 3) := by kernel_rfl
  have hc : Tryd.prog.cellsOf 3 = 1 := by kernel_rfl
  have part0 : ∀ (cs : Array Value) (k : Nat) (u : Value), cs[k]? = some u → (part 3 cs k).run Tryd.prog w = .ok u w := fun cs k u h => by
    simp [part, isAgg, Sem.run_bind, run_underlying hu w, h]
  rw [run_equalIn_array w 9999 _ _ hp hi, hc]
  have h0 := part0 #[.int .i64 a, .int .i64 b] 0 _ rfl
  have h1 := part0 #[.int .i64 a, .int .i64 b] 1 _ rfl
  have h4 := run_equalIn_int (P := Tryd.prog) w 9998 3 .i64 .i64 a a hu
  have h5 := run_equalIn_int (P := Tryd.prog) w 9998 3 .i64 .i64 b b hu
  show (Op.eqItems 9999 3 1 #[.int .i64 a, .int .i64 b] #[.int .i64 a, .int .i64 b] [0, 1]).run Tryd.prog w = _
  simp [Op.eqItems, Sem.run_bind, h0, h1, h4, h5]

theorem RefO.ok {n : Int} {ps : List (Int × Int)} {w w' : World} {e : Ending} (h : RefO n ps w e w') (h0 : closeE n ps = 0) : Below w.heap.size w w' ∧ ∃ g, e = .returned (.tuple #[.pointer (some ⟨g, 0, none⟩), .int .i64 0]) ∧ Rc w' (.pointer (some ⟨g, 0, none⟩)) ps := by
  rcases h.2 with ⟨h1, _⟩ | ⟨_, h2⟩
  · exact absurd h0 h1
  · exact ⟨h.1, h2⟩

theorem RefO.err {n c : Int} {ps : List (Int × Int)} {w w' : World} {e : Ending} (h : RefO n ps w e w') (h0 : closeE n ps = c) (hc : c ≠ 0) : Below w.heap.size w w' ∧ e = .returned (.tuple #[.pointer none, .int .i64 c]) := by
  subst h0
  rcases h.2 with ⟨_, h1⟩ | ⟨h2, _⟩
  · exact ⟨h.1, h1⟩
  · exact absurd h2 hc

end Go.Proofs.YthjghdpiokpnfaaDoor

/- Kids and Sub walked. -/
namespace Go.Proofs.YthjghdpiokpnfaaDoor
open Go.RowKit Go.Maps

theorem empty_ints (w : World) {base : Nat} (hb : base ≤ w.heap.size) : (w.alloc (.cells #[] 3)).ownsRow base 3 1 (.slice (some ⟨w.heap.size, 0, none⟩) 0 0) 0 [] :=
  ⟨rfl, .inr ⟨w.heap.size, 0, #[], rfl, hb, heap_alloc_new _ _, Nat.le_refl _, by simp [maxLen], by simp, by simp⟩⟩

/-- What is wrong with a term and a place; the term there; its arguments' places. -/
def placeE (sig : List Sy) (t : List Int) (p : Int) : Int := if termE sig t = 0 then (endP sig t p).2 else termE sig t

def subL (sig : List Sy) (t : List Int) (p : Int) : List Int := if placeE sig t p = 0 then (t.drop p.toNat).take ((endP sig t p).1.toNat - p.toNat) else []

def kidsL (sig : List Sy) (t : List Int) (p : Int) : List Int := match growR sig (subL sig t p) with | [T] => kidsR p.toNat T | _ => []

theorem placeE_ok {sig : List Sy} {t : List Int} {p : Int} (h : placeE sig t p = 0) : ArOk sig ∧ rowE sig t = 0 ∧ ∃ k m : Nat, p = k ∧ k < t.length ∧ 1 ≤ m ∧ endP sig t p = (((k + m : Nat) : Int), 0) ∧ k + m ≤ t.length ∧ subL sig t p = (t.drop k).take m ∧ rowE sig ((t.drop k).take m) = 0 := by
  have h0 := h
  unfold placeE at h
  by_cases ht : termE sig t = 0
  · rw [if_pos ht] at h
    have hsg : sigE sig = 0 := by
      unfold termE at ht
      by_cases hs : sigE sig = 0
      · exact hs
      · rw [if_neg hs] at ht; exact ht
    have hrw : rowE sig t = 0 := by unfold termE at ht; rw [if_pos hsg] at ht; exact ht
    obtain ⟨k, m, h1, h2, h3, h4, h5, h6⟩ := endP_ok (Prod.ext rfl h : endP sig t p = ((endP sig t p).1, 0))
    refine ⟨sigE_ok hsg, hrw, k, m, h1, h2, h3, Prod.ext h4 h, h5, ?_, h6⟩
    unfold subL
    rw [if_pos h0, h4, h1, Int.toNat_natCast, Int.toNat_natCast, show k + m - k = m by omega]
  · rw [if_neg ht] at h
    exact absurd h ht

theorem kidsL_bad {sig : List Sy} {t : List Int} {p : Int} (h : placeE sig t p ≠ 0) : kidsL sig t p = [] := by
  unfold kidsL subL
  rw [if_neg h]
  rfl

theorem subL_bad {sig : List Sy} {t : List Int} {p : Int} (h : placeE sig t p ≠ 0) : subL sig t p = [] := by
  unfold subL
  rw [if_neg h]

end Go.Proofs.YthjghdpiokpnfaaDoor

/- A term's arguments, one behind the other. -/
namespace Go.Proofs.YthjghdpiokpnfaaDoor
open Go.RowKit Go.Maps

/-- What stands at the head of a row of terms. -/
theorem first_part {sig : List Sy} (ha : ArOk sig) : ∀ (r : List Int) (d m : Int) (j i : Nat), 1 ≤ d → d ≤ m → firstT sig m i r = ((i : Int) + r.length, 0) →
    ∃ k : Nat, 1 ≤ k ∧ k ≤ r.length ∧ firstT sig d j r = ((j : Int) + k, 0) ∧ (m = d → k = r.length) ∧ (d < m → firstT sig (m - d) (i + k) (r.drop k) = ((i : Int) + r.length, 0))
  | [], d, m, j, i, _, _, h => by simp [firstT] at h
  | c :: r, d, m, j, i, hd, hm, h => by
    rw [firstT_cons] at h ⊢
    cases hc : codeD sig c with
    | none => rw [hc] at h; simp at h
    | some e =>
      have he := codeD_ge ha hc
      rw [hc] at h
      simp only at h ⊢
      by_cases h0 : m + e = 0
      · rw [if_pos h0] at h
        have hl : r.length = 0 := by
          have := congrArg Prod.fst h
          simp at this
          omega
        refine ⟨1, Nat.le_refl _, by simp, by rw [if_pos (by omega)]; simp, fun _ => by simp [hl], fun h1 => by omega⟩
      · rw [if_neg h0] at h
        by_cases h1 : d + e = 0
        · refine ⟨1, Nat.le_refl _, by simp, by rw [if_pos h1]; simp, fun h2 => by omega, fun h2 => ?_⟩
          rw [List.drop_succ_cons, List.drop_zero, show m - d = m + e by omega]
          exact h
        · obtain ⟨k, k1, k2, k3, k4, k5⟩ := first_part ha r (d + e) (m + e) (j + 1) (i + 1) (by omega) (by omega) (by rw [h]; simp only [List.length_cons, Prod.mk.injEq, and_true]; omega)
          refine ⟨k + 1, by omega, by simp; omega, by rw [if_neg h1, k3]; simp only [Prod.mk.injEq, and_true]; omega, fun h2 => by have := k4 (by omega); simp; omega, fun h2 => ?_⟩
          have h3 := k5 (by omega)
          rw [List.drop_succ_cons, show m - d = m + e - (d + e) by omega, show i + (k + 1) = i + 1 + k by omega, h3]
          simp only [List.length_cons, Prod.mk.injEq, and_true]
          omega

/-- A row of m terms is taken apart. -/
theorem split_first {sig : List Sy} (ha : ArOk sig) : ∀ (m : Nat) (r : List Int) (i : Nat), 1 ≤ m → firstT sig m i r = ((i : Int) + r.length, 0) → ∃ us : List (List Int), us.length = m ∧ r = us.flatten ∧ ∀ u ∈ us, rowE sig u = 0
  | 0, _, _, h, _ => absurd h (by omega)
  | m + 1, r, i, _, h => by
    obtain ⟨k, k1, k2, k3, k4, k5⟩ := first_part ha r 1 ((m + 1 : Nat) : Int) 0 i (by omega) (by omega) h
    obtain ⟨k', e1, _, _, e4⟩ := first_take r 1 0 _ k3
    have hkk : k' = k := by omega
    subst hkk
    have hr : rowE sig (r.take k') = 0 := by
      rw [row_first, e4, List.length_take]
      simp only [Prod.mk.injEq, and_true]
      omega
    by_cases hm : m = 0
    · subst hm
      have := k4 (by omega)
      refine ⟨[r], rfl, by simp, fun u hu => ?_⟩
      rw [List.mem_singleton] at hu
      subst hu
      rw [List.take_of_length_le (by omega)] at hr
      exact hr
    · have h5 := k5 (by omega)
      rw [show ((m + 1 : Nat) : Int) - 1 = (m : Int) by omega] at h5
      obtain ⟨us, u1, u2, u3⟩ := split_first ha m (r.drop k') (i + k') (by omega) (by rw [h5, List.length_drop]; simp only [Prod.mk.injEq, and_true]; omega)
      refine ⟨r.take k' :: us, by simp [u1], by rw [List.flatten_cons, ← u2, List.take_append_drop], fun u hu => ?_⟩
      rcases List.mem_cons.1 hu with rfl | hu
      · exact hr
      · exact u3 u hu

/-- What grows of a row behind another one. -/
theorem grow_behind {sig : List Sy} (ha : ArOk sig) (v : List Int) : ∀ (u p : List Int), firstT sig 1 0 (p ++ u) = (((p ++ u).length : Int), 0) → growR sig (u ++ v) = growR sig v ++ growR sig u
  | [], p, _ => by simp [growR]
  | c :: u, p, h => by
    have ih := grow_behind ha v u (p ++ [c]) (by simpa using h)
    show growStep sig (growR sig (u ++ v)) c = growR sig v ++ growStep sig (growR sig u) c
    rw [ih]
    unfold growStep
    by_cases hc : c < 0
    · rw [if_pos hc, if_pos hc, List.append_assoc]
    · rw [if_neg hc, if_neg hc]
      obtain ⟨_, h2⟩ := grow_code ha p c u 1 0 (by omega) (by rw [h]; simp) hc
      rw [List.length_append, show (growR sig v).length + (growR sig u).length - arN sig c = (growR sig v).length + ((growR sig u).length - arN sig c) by omega, List.take_length_add_append, List.drop_length_add_append, List.append_assoc]

/-- The trees of terms one behind the other. -/
theorem grow_flat {sig : List Sy} (ha : ArOk sig) : ∀ us : List (List Int), (∀ u ∈ us, rowE sig u = 0) → (growR sig us.flatten).reverse.map Tr.size = us.map List.length
  | [], _ => by simp [growR]
  | u :: us, h => by
    obtain ⟨T, h1, h2⟩ := grow_one ha (h u (by simp))
    have h3 := grow_behind ha us.flatten u [] (by rw [List.nil_append]; exact row_first.1 (h u (by simp)))
    rw [List.flatten_cons, h3, h1, List.reverse_append, List.map_append, grow_flat ha us (fun x hx => h x (by simp [hx]))]
    simp [h2]

/-- Places by lengths. -/
def places : Nat → List Nat → List Int
  | _, [] => []
  | p, n :: ns => (p : Int) :: places (p + n) ns

theorem kids_places : ∀ (p : Nat) (ts : List Tr), kidsGo p ts = places p (ts.map Tr.size)
  | _, [] => rfl
  | p, t :: ts => by simp only [kidsGo, List.map_cons, places, kids_places (p + t.size) ts]

theorem places_len : ∀ (p : Nat) (ns : List Nat), (places p ns).length = ns.length
  | _, [] => rfl
  | p, n :: ns => by simp only [places, List.length_cons, places_len (p + n) ns]

theorem places_at : ∀ (us : List (List Int)) (p k : Nat), k < us.length → (places p (us.map List.length))[k]? = some ((p + (us.take k).flatten.length : Nat) : Int)
  | [], _, k, h => by simp at h
  | u :: us, p, 0, _ => by simp [places]
  | u :: us, p, k + 1, h => by
    rw [List.map_cons, places, List.getElem?_cons_succ, places_at us (p + u.length) k (by simpa using h), List.take_succ_cons, List.flatten_cons, List.length_append]
    simp only [Option.some.injEq]
    omega

/-- A symbol's arguments. -/
theorem kids_split {sig : List Sy} (ha : ArOk sig) {c : Int} {r : List Int} (h : rowE sig (c :: r) = 0) (hc : ¬ c < 0) :
    ∃ us : List (List Int), r = us.flatten ∧ (∀ u ∈ us, rowE sig u = 0) ∧ ∃ T, growR sig (c :: r) = [T] ∧ kidsR 0 T = places 1 (us.map List.length) := by
  have h1 := row_first.1 h
  rw [firstT_cons] at h1
  cases hd : codeD sig c with
  | none => rw [hd] at h1; simp at h1
  | some e =>
    rw [hd] at h1
    simp only at h1
    obtain ⟨k1, _⟩ := codeD_ar ha hd hc
    obtain ⟨us, u1, u2, u3⟩ : ∃ us : List (List Int), us.length = arN sig c ∧ r = us.flatten ∧ ∀ u ∈ us, rowE sig u = 0 := by
      by_cases h0 : 1 + e = 0
      · rw [if_pos h0] at h1
        have hl : r.length = 0 := by
          have := congrArg Prod.fst h1
          simp at this
          omega
        exact ⟨[], by simp; omega, by rw [List.eq_nil_of_length_eq_zero hl]; rfl, fun u hu => by cases hu⟩
      · rw [if_neg h0, show (1 : Int) + e = (arN sig c : Int) by omega] at h1
        exact split_first ha _ r (0 + 1) (by omega) (by rw [h1]; simp only [List.length_cons, Prod.mk.injEq, and_true]; omega)
    have hg := grow_flat ha us u3
    have hl : (growR sig r).length = arN sig c := by
      have := congrArg List.length hg
      rw [List.length_map, List.length_map, List.length_reverse, ← u2] at this
      omega
    refine ⟨us, u2, u3, .app (growR sig r).reverse, ?_, ?_⟩
    · show growStep sig (growR sig r) c = _
      unfold growStep
      rw [if_neg hc, hl, Nat.sub_self, List.take_zero, List.drop_zero, List.nil_append]
    · rw [kidsR, kids_places, u2, hg]

theorem term_parts {sig : List Sy} {t : List Int} (h : termE sig t = 0) : sigE sig = 0 ∧ rowE sig t = 0 := by
  unfold termE at h
  by_cases hs : sigE sig = 0
  · rw [if_pos hs] at h; exact ⟨hs, h⟩
  · rw [if_neg hs] at h; exact absurd h hs

/-- The term that stands at a place. -/
theorem sub_at {sig : List Sy} {t p u q : List Int} (ht : termE sig t = 0) (hu : rowE sig u = 0) (he : t = p ++ (u ++ q)) : placeE sig t p.length = 0 ∧ subL sig t p.length = u := by
  have ha := sigE_ok (term_parts ht).1
  have h1 := first_app ha u 1 0 (by omega) (by rw [row_first.1 hu]; simp) 1 0 q (by omega)
  rw [if_pos rfl] at h1
  have hul : 0 < u.length := by
    cases u with
    | nil => simp [rowE, firstT] at hu
    | cons c u => simp
  have h2 : endP sig t p.length = (((p.length + u.length : Nat) : Int), 0) := by
    unfold endP
    rw [if_neg (by rw [he, List.length_append, List.length_append]; omega), Int.toNat_natCast, he, List.drop_left, h1]
    simp only [Prod.mk.injEq, and_true]
    omega
  have h3 : placeE sig t p.length = 0 := by unfold placeE; rw [if_pos ht, h2]
  refine ⟨h3, ?_⟩
  unfold subL
  rw [if_pos h3, h2, Int.toNat_natCast, Int.toNat_natCast, show p.length + u.length - p.length = u.length by omega, he, List.drop_left, List.take_left]

/-- The arguments of a right term's root. -/
theorem root_kids {sig : List Sy} {c : Int} {r : List Int} (ht : termE sig (c :: r) = 0) (hc : ¬ c < 0) :
    placeE sig (c :: r) 0 = 0 ∧ ∃ us : List (List Int), r = us.flatten ∧ (∀ u ∈ us, rowE sig u = 0) ∧ kidsL sig (c :: r) 0 = places 1 (us.map List.length) := by
  obtain ⟨hs, hr⟩ := term_parts ht
  obtain ⟨h1, h2⟩ := sub_at (p := []) (q := []) ht hr (by simp)
  obtain ⟨us, u1, u2, T, u3, u4⟩ := kids_split (sigE_ok hs) hr hc
  refine ⟨h1, us, u1, u2, ?_⟩
  have h3 : subL sig (c :: r) 0 = c :: r := h2
  unfold kidsL
  rw [h3, u3]
  exact u4

/-- Where a substitution meets none of the variables, nothing is done. -/
theorem laid_unmet (f : Int → Option (List Int)) (t : List Int) (h : ∀ c ∈ t, c < 0 → f (-1 - c) = none) : laidL f t = t := by
  unfold laidL
  induction t with
  | nil => rfl
  | cons c t ih =>
    rw [List.flatMap_cons, ih (fun x hx => h x (by simp [hx]))]
    have : piece f c = [c] := by
      unfold piece
      by_cases hc : c < 0
      · simp [hc, h c (by simp) hc]
      · simp [hc]
    rw [this]
    rfl

end Go.Proofs.YthjghdpiokpnfaaDoor

/- The places of a term, plainly: what is above a place, where the arguments stand. -/
namespace Go.Proofs.YthjghdpiokpnfaaDoor
open Go.RowKit Go.Maps

mutual
/-- The places above a place, of a tree that stands at a place. -/
def abv : Tr → Nat → Nat → List Int
  | .var, _, _ => []
  | .app ts, p, q => if p = q then [] else (p : Int) :: abvs ts (p + 1) q
def abvs : List Tr → Nat → Nat → List Int
  | [], _, _ => []
  | t :: ts, p, q => if p + t.size ≤ q then abvs ts (p + t.size) q else abv t p q
end

/-- How many nodes the term at a place has. -/
def nodes (sig : List Sy) (t : List Int) (i : Nat) : Nat := (firstT sig 1 0 (t.drop i)).1.toNat

/-- The places above a place. -/
def abD (sig : List Sy) (t : List Int) (q : Nat) : List Nat := (List.range q).filter fun i => decide (q < i + nodes sig t i)

theorem first_more {sig : List Sy} (q : List Int) : ∀ (r : List Int) (m : Int) (i : Nat) (n : Int), firstT sig m i r = (n, 0) → firstT sig m i (r ++ q) = (n, 0)
  | [], m, i, n, h => by simp [firstT] at h
  | c :: r, m, i, n, h => by
    rw [List.cons_append, firstT_cons]
    rw [firstT_cons] at h
    cases hc : codeD sig c with
    | none => rw [hc] at h; simp at h
    | some e =>
      rw [hc] at h
      simp only at h ⊢
      by_cases h0 : m + e = 0
      · rw [if_pos h0] at h ⊢; exact h
      · rw [if_neg h0] at h ⊢; exact first_more q r (m + e) (i + 1) n h

theorem first_at {sig : List Sy} (ha : ArOk sig) : ∀ (v : List Int) (m : Int) (j i : Nat), 1 ≤ m → firstT sig m j v = ((j : Int) + v.length, 0) → i < v.length → ∃ m' : Int, 1 ≤ m' ∧ firstT sig m' (j + i) (v.drop i) = ((j : Int) + v.length, 0)
  | v, m, j, 0, hm, h, _ => ⟨m, hm, h⟩
  | [], m, j, i + 1, _, _, hi => by simp at hi
  | c :: v, m, j, i + 1, hm, h, hi => by
    rw [firstT_cons] at h
    cases hc : codeD sig c with
    | none => rw [hc] at h; simp at h
    | some e =>
      have he := codeD_ge ha hc
      rw [hc] at h
      simp only at h
      by_cases h0 : m + e = 0
      · rw [if_pos h0] at h
        have := congrArg Prod.fst h
        simp only [List.length_cons] at this hi
        omega
      · rw [if_neg h0] at h
        obtain ⟨m', h1, h2⟩ := first_at ha v (m + e) (j + 1) i (by omega) (by rw [h]; simp only [List.length_cons, Prod.mk.injEq, and_true]; omega) (by simpa using hi)
        refine ⟨m', h1, ?_⟩
        rw [List.drop_succ_cons, show j + (i + 1) = j + 1 + i by omega, h2]
        simp only [List.length_cons, Prod.mk.injEq, and_true]
        omega

/-- The term at a place of a right term. -/
theorem at_place {sig : List Sy} (ha : ArOk sig) {v : List Int} (h : rowE sig v = 0) {i : Nat} (hi : i < v.length) :
    1 ≤ nodes sig v i ∧ i + nodes sig v i ≤ v.length ∧ firstT sig 1 0 (v.drop i) = ((nodes sig v i : Int), 0) ∧ rowE sig ((v.drop i).take (nodes sig v i)) = 0 := by
  obtain ⟨m', h1, h2⟩ := first_at ha v 1 0 i (by omega) (by rw [row_first.1 h]; simp) hi
  obtain ⟨k, k1, k2, k3, _, _⟩ := first_part ha (v.drop i) 1 m' 0 (0 + i) (by omega) h1 (by rw [h2, List.length_drop]; simp only [Prod.mk.injEq, and_true]; omega)
  have hn : nodes sig v i = k := by unfold nodes; rw [k3]; simp
  rw [hn]
  rw [List.length_drop] at k2
  have k3' : firstT sig 1 0 (v.drop i) = ((k : Int), 0) := by rw [k3]; simp
  refine ⟨k1, by omega, k3', ?_⟩
  obtain ⟨k', e1, _, _, e4⟩ := first_take (v.drop i) 1 0 _ k3'
  have : k' = k := by omega
  subst this
  rw [row_first, e4, List.length_take, List.length_drop]
  simp only [Prod.mk.injEq, and_true]
  omega

theorem nodes_app {sig : List Sy} (ha : ArOk sig) {v : List Int} (h : rowE sig v = 0) {i : Nat} (hi : i < v.length) (q : List Int) : nodes sig (v ++ q) i = nodes sig v i := by
  obtain ⟨_, _, h3, _⟩ := at_place ha h hi
  have h4 := first_more q _ _ _ _ h3
  rw [← List.drop_append_of_le_length (by omega)] at h4
  have h5 : nodes sig (v ++ q) i = ((nodes sig v i : Int)).toNat := by
    show (firstT sig 1 0 ((v ++ q).drop i)).1.toNat = _
    rw [h4]
  rw [h5, Int.toNat_natCast]

theorem nodes_behind {sig : List Sy} (v q : List Int) (i : Nat) : nodes sig (v ++ q) (v.length + i) = nodes sig q i := by
  unfold nodes
  rw [List.drop_length_add_append]

theorem nodes_drop {sig : List Sy} (t : List Int) (j i : Nat) : nodes sig (t.drop j) i = nodes sig t (j + i) := by
  unfold nodes
  rw [List.drop_drop]

theorem nodes_root {sig : List Sy} {v : List Int} (h : rowE sig v = 0) : nodes sig v 0 = v.length := by
  unfold nodes
  rw [List.drop_zero, row_first.1 h]
  simp

/-- Terms lie in one another, or apart. -/
theorem lam {sig : List Sy} (ha : ArOk sig) {t : List Int} (h : rowE sig t = 0) {i j : Nat} (hj : j < t.length) (h1 : j ≤ i) (h2 : i < j + nodes sig t j) : i + nodes sig t i ≤ j + nodes sig t j := by
  obtain ⟨_, k2, k3, k4⟩ := at_place ha h hj
  have hl : ((t.drop j).take (nodes sig t j)).length = nodes sig t j := by rw [List.length_take, List.length_drop]; omega
  have h3 := at_place ha k4 (i := i - j) (by rw [hl]; omega)
  have h4 := nodes_app ha k4 (i := i - j) (by rw [hl]; omega) ((t.drop j).drop (nodes sig t j))
  rw [List.take_append_drop, nodes_drop, show j + (i - j) = i by omega] at h4
  rw [← h4, hl] at h3
  omega

theorem grow_map {sig : List Sy} (ha : ArOk sig) : ∀ us : List (List Int), (∀ u ∈ us, rowE sig u = 0) → (growR sig us.flatten).reverse = us.flatMap (growR sig)
  | [], _ => by simp [growR]
  | u :: us, h => by
    obtain ⟨T, h1, _⟩ := grow_one ha (h u (by simp))
    have h3 := grow_behind ha us.flatten u [] (by rw [List.nil_append]; exact row_first.1 (h u (by simp)))
    rw [List.flatten_cons, h3, h1, List.reverse_append, grow_map ha us (fun x hx => h x (by simp [hx])), List.flatMap_cons, h1]
    rfl

/-- A symbol's arguments, as a tree. -/
theorem kids_tree {sig : List Sy} (ha : ArOk sig) {c : Int} {r : List Int} (h : rowE sig (c :: r) = 0) (hc : ¬ c < 0) :
    ∃ us : List (List Int), us.length = arN sig c ∧ r = us.flatten ∧ (∀ u ∈ us, rowE sig u = 0) ∧ growR sig (c :: r) = [.app (us.flatMap (growR sig))] := by
  have h1 := row_first.1 h
  rw [firstT_cons] at h1
  cases hd : codeD sig c with
  | none => rw [hd] at h1; simp at h1
  | some e =>
    rw [hd] at h1
    simp only at h1
    obtain ⟨k1, _⟩ := codeD_ar ha hd hc
    obtain ⟨us, u1, u2, u3⟩ : ∃ us : List (List Int), us.length = arN sig c ∧ r = us.flatten ∧ ∀ u ∈ us, rowE sig u = 0 := by
      by_cases h0 : 1 + e = 0
      · rw [if_pos h0] at h1
        have hl : r.length = 0 := by
          have := congrArg Prod.fst h1
          simp at this
          omega
        exact ⟨[], by simp; omega, by rw [List.eq_nil_of_length_eq_zero hl]; rfl, fun u hu => by cases hu⟩
      · rw [if_neg h0, show (1 : Int) + e = (arN sig c : Int) by omega] at h1
        exact split_first ha _ r (0 + 1) (by omega) (by rw [h1]; simp only [List.length_cons, Prod.mk.injEq, and_true]; omega)
    have hl : (growR sig r).length = arN sig c := by
      have := congrArg List.length (grow_flat ha us u3)
      rw [List.length_map, List.length_map, List.length_reverse, ← u2] at this
      omega
    refine ⟨us, u1, u2, u3, ?_⟩
    show growStep sig (growR sig r) c = _
    unfold growStep
    rw [if_neg hc, hl, Nat.sub_self, List.take_zero, List.drop_zero, List.nil_append, u2, grow_map ha us u3]

theorem abD_far {sig : List Sy} (ha : ArOk sig) {v : List Int} (h : rowE sig v = 0) (r : List Int) {q : Nat} (hq : v.length ≤ q) : abD sig (v ++ r) q = (abD sig r (q - v.length)).map (v.length + ·) := by
  obtain ⟨d, rfl⟩ : ∃ d, q = v.length + d := ⟨q - v.length, by omega⟩
  rw [Nat.add_sub_cancel_left]
  unfold abD
  rw [List.range_add, List.filter_append, List.filter_map]
  have h1 : (List.range v.length).filter (fun i => decide (v.length + d < i + nodes sig (v ++ r) i)) = [] := by
    rw [List.filter_eq_nil_iff]
    intro i hi
    have hi := List.mem_range.1 hi
    have h2 := at_place ha h hi
    rw [nodes_app ha h hi]
    simp
    omega
  rw [h1, List.nil_append]
  congr 1
  refine List.filter_congr fun i _ => ?_
  simp only [Function.comp]
  rw [nodes_behind]
  simp
  omega

theorem abD_in {sig : List Sy} (ha : ArOk sig) {v : List Int} (h : rowE sig v = 0) (r : List Int) {q : Nat} (hq : q < v.length) : abD sig (v ++ r) q = abD sig v q := by
  unfold abD
  refine List.filter_congr fun i hi => ?_
  rw [nodes_app ha h (by have := List.mem_range.1 hi; omega)]

theorem abD_cons {sig : List Sy} {c : Int} {r : List Int} (h : rowE sig (c :: r) = 0) {q : Nat} (hq : q < r.length) : abD sig (c :: r) (q + 1) = 0 :: (abD sig r q).map (1 + ·) := by
  unfold abD
  rw [Nat.add_comm q 1, List.range_add, List.filter_append, List.filter_map]
  have h1 : (List.range 1).filter (fun i => decide (1 + q < i + nodes sig (c :: r) i)) = [0] := by
    have : List.range 1 = [0] := rfl
    rw [this, List.filter_cons_of_pos (by rw [nodes_root h]; simp; omega)]
    rfl
  rw [h1, List.singleton_append]
  congr 2
  refine List.filter_congr fun i _ => ?_
  simp only [Function.comp]
  have := nodes_behind (sig := sig) [c] r i
  simp only [List.singleton_append, List.length_singleton] at this
  rw [this]
  simp
  omega

/-- What is found above a place by going down the tree. -/
theorem abv_eq {sig : List Sy} (ha : ArOk sig) : ∀ (N : Nat) (u : List Int), u.length ≤ N → rowE sig u = 0 → ∀ (T : Tr) (p q : Nat), growR sig u = [T] → q < u.length → abv T p (p + q) = (abD sig u q).map (fun i => ((p + i : Nat) : Int))
  | 0, u, hN, h, T, p, q, _, hq => by omega
  | N + 1, [], hN, h, T, p, q, _, hq => by simp at hq
  | N + 1, c :: r, hN, h, T, p, q, hT, hq => by
    by_cases hc : c < 0
    · have h1 := row_first.1 h
      have hr : r = [] := by
        rw [firstT_cons] at h1
        cases hd : codeD sig c with
        | none => rw [hd] at h1; simp at h1
        | some e =>
          rw [hd] at h1
          unfold codeD at hd
          split at hd
          · cases hd
          · cases hd
            simp at h1
            exact List.eq_nil_of_length_eq_zero (by omega)
      subst hr
      obtain rfl : q = 0 := by simp at hq; omega
      have : T = .var := by
        have h2 : growStep sig [] c = [T] := hT
        unfold growStep at h2
        rw [if_pos hc] at h2
        simp at h2
        exact h2.symm
      subst this
      simp [abv, abD]
    · obtain ⟨us, _, hr, hus, hg⟩ := kids_tree ha h hc
      rw [hg] at hT
      simp only [List.cons.injEq, and_true] at hT
      subst hT
      have hlen : ∀ u ∈ us, u.length ≤ N := fun u hu => by
        have h1 : u.length ≤ us.flatten.length := List.Sublist.length_le (List.sublist_flatten_of_mem hu)
        rw [← hr] at h1
        simp at hN
        omega
      -- the arguments, one behind the other
      have key : ∀ (vs : List (List Int)), (∀ u ∈ vs, rowE sig u = 0) → (∀ u ∈ vs, u.length ≤ N) → ∀ p q : Nat, q < vs.flatten.length → abvs (vs.flatMap (growR sig)) p (p + q) = (abD sig vs.flatten q).map (fun i => ((p + i : Nat) : Int)) := by
        intro vs
        induction vs with
        | nil => intro _ _ p q hq; simp at hq
        | cons v vs ih =>
          intro hv hl p q hq
          obtain ⟨T, h1, h2⟩ := grow_one ha (hv v (by simp))
          rw [List.flatMap_cons, h1, List.flatten_cons]
          show abvs (T :: vs.flatMap (growR sig)) p (p + q) = _
          unfold abvs
          rw [h2]
          by_cases hqv : v.length ≤ q
          · rw [if_pos (by omega), abD_far ha (hv v (by simp)) _ hqv, show p + q = p + v.length + (q - v.length) by omega,
              ih (fun u hu => hv u (by simp [hu])) (fun u hu => hl u (by simp [hu])) (p + v.length) (q - v.length) (by rw [List.flatten_cons, List.length_append] at hq; omega), List.map_map]
            refine List.map_congr_left fun i _ => ?_
            simp only [Function.comp]
            rw [Nat.add_assoc]
          · rw [if_neg (by omega), abD_in ha (hv v (by simp)) _ (by omega)]
            exact abv_eq ha N v (hl v (by simp)) (hv v (by simp)) T p q h1 (by omega)
      unfold abv
      cases q with
      | zero => simp [abD]
      | succ q =>
        have hq2 : q < us.flatten.length := by rw [← hr]; simpa using hq
        rw [if_neg (by omega), abD_cons h (by simpa using hq), show p + (q + 1) = p + 1 + q by omega, key us hus hlen (p + 1) q hq2, hr, List.map_cons, List.map_map]
        congr 1
        refine List.map_congr_left fun i _ => ?_
        simp only [Function.comp]
        rw [Nat.add_assoc]

/-- The arguments' places, found one by one. -/
def kidsD (sig : List Sy) (t : List Int) : Nat → Nat → List Int
  | 0, _ => []
  | n + 1, k => (k : Int) :: kidsD sig t n (k + nodes sig t k)

theorem kidsD_places {sig : List Sy} (t : List Int) : ∀ (us : List (List Int)) (k : Nat) (q : List Int), (∀ u ∈ us, rowE sig u = 0) → t.drop k = us.flatten ++ q → kidsD sig t us.length k = places k (us.map List.length)
  | [], _, _, _, _ => rfl
  | u :: us, k, q, h, ht => by
    have h0 := h u (by simp)
    have h1 : nodes sig t k = u.length := by
      unfold nodes
      rw [ht, List.flatten_cons, List.append_assoc, first_more _ u 1 0 (u.length : Int) (by rw [row_first.1 h0])]
      simp
    show (k : Int) :: kidsD sig t us.length (k + nodes sig t k) = (k : Int) :: places (k + u.length) (us.map List.length)
    rw [h1, kidsD_places t us (k + u.length) q (fun x hx => h x (by simp [hx]))]
    rw [← List.drop_drop, ht, List.flatten_cons, List.append_assoc, List.drop_left]

/-- Kids, found one by one. -/
theorem kids_eq {sig : List Sy} {t : List Int} {k : Nat} {c : Int} (h : placeE sig t k = 0) (hc : t[k]? = some c) : kidsL sig t k = if c < 0 then [] else kidsD sig t (arN sig c) (k + 1) := by
  obtain ⟨ha, hr, k', m, hk, hkl, hm1, hend, hkm, hsub, hrow⟩ := placeE_ok h
  obtain rfl : k = k' := by omega
  have hd := drop_get hc
  obtain ⟨m', rfl⟩ : ∃ m', m = m' + 1 := ⟨m - 1, by omega⟩
  rw [hd, List.take_succ_cons] at hsub hrow
  unfold kidsL
  rw [hsub, Int.toNat_natCast]
  by_cases h0 : c < 0
  · rw [if_pos h0]
    obtain ⟨T, hT, _⟩ := grow_one ha hrow
    rw [hT]
    have hT2 : growStep sig (growR sig ((t.drop (k + 1)).take m')) c = [T] := hT
    unfold growStep at hT2
    rw [if_pos h0] at hT2
    have h2 := congrArg List.length hT2
    rw [List.length_append] at h2
    simp only [List.length_cons, List.length_nil] at h2
    have h3 : growR sig ((t.drop (k + 1)).take m') = [] := List.eq_nil_of_length_eq_zero (by omega)
    rw [h3] at hT2
    simp only [List.nil_append, List.cons.injEq, and_true] at hT2
    subst hT2
    rfl
  · rw [if_neg h0]
    obtain ⟨us, u1, u2, u3, u4⟩ := kids_tree ha hrow h0
    rw [u4]
    show kidsGo (k + 1) (us.flatMap (growR sig)) = _
    rw [kids_places, ← grow_map ha us u3, grow_flat ha us u3, ← u1]
    refine (kidsD_places t us (k + 1) ((t.drop (k + 1)).drop m') u3 ?_).symm
    rw [← u2, List.take_append_drop]

end Go.Proofs.YthjghdpiokpnfaaDoor
