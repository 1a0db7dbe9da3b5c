/- The closure of pairs is an order: whatever is handed in, PrecOrders answers true. -/
import Derived.Test.YtagndlcpcggmpaaTPrcS
namespace Go.Proofs.Ytagndlcpcggmpaa
open Go.RowKit Go.Maps

theorem abB_pair {n : Int} {ps : List (Int × Int)} (h : InN n ps) {k : Nat} {a b : Int} (hk : ps[k]? = some (a, b)) : abB ps a b = true := by
  have hm := List.mem_of_getElem? hk
  have h1 := h _ hm
  simp only at h1
  refine (abB_iff ps a b).2 ⟨h1.1, h1.2.2.1, Up.base ?_⟩
  show (((a.toNat : Nat) : Int), ((b.toNat : Nat) : Int)) ∈ ps
  rw [Int.toNat_of_nonneg h1.1, Int.toNat_of_nonneg h1.2.2.1]
  exact hm

theorem abB_self {n : Int} {ps : List (Int × Int)} (h : closeE n ps = 0) (f : Int) : abB ps f f = false := by
  rw [Bool.eq_false_iff]
  intro hh
  exact (closeE_zero h).2.2.2 _ ((abB_iff ps f f).1 hh).2.2

theorem abB_back {n : Int} {ps : List (Int × Int)} (h : closeE n ps = 0) {f g : Int} (h1 : abB ps f g = true) : abB ps g f = false := by
  rw [Bool.eq_false_iff]
  intro hh
  exact (closeE_zero h).2.2.2 _ (Up.tr ps _ _ _ ((abB_iff ps f g).1 h1).2.2 ((abB_iff ps g f).1 hh).2.2)

theorem abB_on {ps : List (Int × Int)} {f g h : Int} (h1 : abB ps f g = true) (h2 : abB ps g h = true) : abB ps f h = true :=
  (abB_iff ps f h).2 ⟨((abB_iff ps f g).1 h1).1, ((abB_iff ps g h).1 h2).2.1, Up.tr ps _ _ _ ((abB_iff ps f g).1 h1).2.2 ((abB_iff ps g h).1 h2).2.2⟩

theorem abB_in {n : Int} {ps : List (Int × Int)} (hi : InN n ps) {f g : Int} (h : abB ps f g = true) : 0 ≤ f ∧ f < n ∧ 0 ≤ g ∧ g < n := by
  have h1 := (abB_iff ps f g).1 h
  have := Up.inN hi h1.2.2
  omega

set_option maxRecDepth 100000 in
set_option maxHeartbeats 3200000 in
theorem precOrders_any (n : Int) (v : Value) (ps : List (Int × Int)) (f g h : Int) (w : World) (hp : Prs w v ps) :
    Calls Try.prog 4 #[.int .i64 n, v, .int .i64 f, .int .i64 g, .int .i64 h] w fun e w' => e = .returned (.bool true) ∧ Below w.heap.size w w' := by
  obtain ⟨ao, cap, rfl, hcap, hcm, _⟩ := Row.flat hp
  unfold maxLen at hcm
  have HP : Hid (Prs w (.slice ao ps.length cap) ps) := hp
  clear hp
  go_enter Try.func4, Try.ntmps4
  go_wp2_with fail
  refine (shown10_any w).mono ?_
  rintro e w1 ⟨rfl, hb1⟩
  have B1 : Hid (Below w.heap.size w w1) := hb1
  clear hb1
  go_wp2_with fail
  refine (close_any n _ ps w1 (HP.out.later B1.out)).mono ?_
  intro e w2 hc
  by_cases h0 : closeE n ps = 0
  · obtain ⟨hb2, gp, rfl, hp2⟩ := hc.ok h0
    have H2 : Hid (Pc w2 (.pointer (some ⟨gp, 0, none⟩)) ps) := hp2
    have B2 : Hid (Below w.heap.size w w2) := below_step B1.out hb2
    have H0 := hidP h0
    have HI : Hid (InN n ps) := (closeE_zero h0).2.2.1
    clear hc hb2 hp2 B1 h0
    go_wp2
    go_loopw [14] (fun i wr => ∃ k : Nat, k ≤ ps.length ∧ i = .int .i64 k ∧ Pc wr (.pointer (some ⟨gp, 0, none⟩)) ps ∧ Below w.heap.size w wr) (fun i _ => ps.length - (intOf i).toNat)
    case atStart => exact ⟨0, by omega, rfl, H2.out, B2.out⟩
    case round =>
      clear H2 B2
      obtain ⟨k, hk, rfl, hpc, hbl⟩ := hrel
      have H2 : Hid (Pc wr (.pointer (some ⟨gp, 0, none⟩)) ps) := hpc
      have B2 : Hid (Below w.heap.size w wr) := hbl
      clear hpc hbl
      by_cases hlt : k < ps.length
      · obtain ⟨gb, off, a, b, rfl, hab, c1, c2, ha, hb⟩ := (HP.out.later B2.out).at hlt
        have HV : Hid (abB ps a b = true) := abB_pair HI.out hab
        clear hab
        go_wp2_with fail
        have hS : (fun w' : World => w'.cell? ⟨gb, off + k * 2, none⟩ = some (.int .i64 a) ∧ w'.cell? ⟨gb, off + k * 2 + 1, none⟩ = some (.int .i64 b)) wr.drew := ⟨c1, c2⟩
        refine wp_region_held_drew (S := fun w' : World => w'.cell? ⟨gb, off + k * 2, none⟩ = some (.int .i64 a) ∧ w'.cell? ⟨gb, off + k * 2 + 1, none⟩ = some (.int .i64 b)) (by kernel_rfl) hS (fun _ => ?_)
        obtain ⟨wd, hwd⟩ : ∃ X, X = wr.drew := ⟨_, rfl⟩
        rw [← hwd] at hS ⊢
        have hbd : Below wr.heap.size wr wd := by rw [hwd]; exact (Below.refl _ _).drew
        have H3 : Hid (Pc wd (.pointer (some ⟨gp, 0, none⟩)) ps) := H2.out.later hbd
        have B3 : Hid (Below w.heap.size w wd) := below_step B2.out hbd
        clear hwd hbd H2 B2 c1 c2
        refine wpAnyH_take (i := 0) (v := .pointer (some ⟨gp, 0, none⟩)) rfl (by kernel_rfl) (by kernel_rfl) (by kernel_rfl) (fun _ _ _ h => h) (Or.inl ⟨by rfl, fun w' h => by go_simp⟩) hS ?_
        simp only [Act.put, List.setIfInBounds_toArray]
        refine wpAnyH_take (i := 1) (v := .slice (some ⟨gb, off, none⟩) ps.length cap) rfl (by kernel_rfl) (by kernel_rfl) (by kernel_rfl) (fun _ _ _ h => h) (Or.inl ⟨by rfl, fun w' h => by go_simp⟩) hS ?_
        simp only [Act.put]
        refine wpAnyH_take (i := 2) (v := .int .i64 (k : Int)) rfl (by kernel_rfl) (by kernel_rfl) (by kernel_rfl) (fun _ _ _ h => h) (Or.inl ⟨by rfl, fun w' h => by go_simp⟩) hS ?_
        simp only [Act.put]
        refine wpAnyH_take (i := 3) (v := .pointer (some ⟨gb, off + k * 2, none⟩)) rfl (by kernel_rfl) (by kernel_rfl) (by kernel_rfl) (fun _ _ _ h => h) (Or.inl ⟨by rfl, fun w' h => by go_simp⟩) hS ?_
        simp only [Act.put]
        refine wpAnyH_take (i := 4) (v := .pointer (some ⟨gb, off + k * 2, none⟩)) rfl (by kernel_rfl) (by kernel_rfl) (by kernel_rfl) (fun _ _ _ h => h) (Or.inl ⟨by rfl, fun w' h => by go_simp⟩) hS ?_
        simp only [Act.put]
        refine wpAnyH_take (i := 5) (v := .int .i64 a) rfl (by kernel_rfl) (by kernel_rfl) (by kernel_rfl) (fun _ _ _ h => h) (Or.inl ⟨by rfl, fun w' h => by obtain ⟨h0, h1⟩ := h; go_simp⟩) hS ?_
        simp only [Act.put]
        refine wpAnyH_take (i := 6) (v := .slice (some ⟨gb, off, none⟩) ps.length cap) rfl (by kernel_rfl) (by kernel_rfl) (by kernel_rfl) (fun _ _ _ h => h) (Or.inl ⟨by rfl, fun w' h => by go_simp⟩) hS ?_
        simp only [Act.put]
        refine wpAnyH_take (i := 7) (v := .int .i64 (k : Int)) rfl (by kernel_rfl) (by kernel_rfl) (by kernel_rfl) (fun _ _ _ h => h) (Or.inl ⟨by rfl, fun w' h => by go_simp⟩) hS ?_
        simp only [Act.put]
        refine wpAnyH_take (i := 8) (v := .pointer (some ⟨gb, off + k * 2, none⟩)) rfl (by kernel_rfl) (by kernel_rfl) (by kernel_rfl) (fun _ _ _ h => h) (Or.inl ⟨by rfl, fun w' h => by go_simp⟩) hS ?_
        simp only [Act.put]
        refine wpAnyH_take (i := 9) (v := .pointer (some ⟨gb, off + k * 2 + 1, none⟩)) rfl (by kernel_rfl) (by kernel_rfl) (by kernel_rfl) (fun _ _ _ h => h) (Or.inl ⟨by rfl, fun w' h => by go_simp⟩) hS ?_
        simp only [Act.put]
        refine wpAnyH_take (i := 10) (v := .int .i64 b) rfl (by kernel_rfl) (by kernel_rfl) (by kernel_rfl) (fun _ _ _ h => h) (Or.inl ⟨by rfl, fun w' h => by obtain ⟨h0, h1⟩ := h; go_simp⟩) hS ?_
        simp only [Act.put]
        refine wpAnyH_ready (rs := [11]) (by kernel_rfl) (by simp) (AllReadyH.cons rfl (fun K hK => ?_) AllReadyH.nil)
        go_simp
        refine (above_any ps (.pointer (some ⟨gp, 0, none⟩)) a b wd H3.out).mono ?_
        rintro e w4 ⟨rfl, hbn⟩
        have H4 : Hid (Pc w4 (.pointer (some ⟨gp, 0, none⟩)) ps) := H3.out.later hbn
        have B4 : Hid (Below w.heap.size w w4) := below_step B3.out hbn
        have hS4 : (fun w' : World => w'.cell? ⟨gb, off + k * 2, none⟩ = some (.int .i64 a) ∧ w'.cell? ⟨gb, off + k * 2 + 1, none⟩ = some (.int .i64 b)) w4 := ⟨(Kp.of_below hbn).cell _ _ hS.1, (Kp.of_below hbn).cell _ _ hS.2⟩
        rw [HV.out]
        refine hK.out _ _ hS4 (fun hS9 => ?_)
        clear hK K hS9 hbn H3 B3 hS
        refine wpAnyH_take (i := 12) (v := .bool false) rfl (by kernel_rfl) (by kernel_rfl) (by kernel_rfl) (fun _ _ _ h => h) (Or.inl ⟨by rfl, fun w' h => by go_simp⟩) hS4 ?_
        simp only [Act.put]
        refine wpAnyH_done (by kernel_rfl) ?_ _
        clear hS4
        go_wp2
        go_roundw
        case rel => exact ⟨k + 1, by omega, by go_num, H4.out, B4.out⟩
        case measure => simp [intOf]; omega
      · have hff := abB_self H0.out f
        have Hff := hidP hff
        clear hff
        cases hfg : abB ps f g with
        | false =>
          have Hfg := hidP hfg
          clear hfg
          by_cases q1 : 0 ≤ f
          · by_cases q2 : f < n
            · by_cases q3 : 0 ≤ g
              · by_cases q4 : g < n
                · go_wp2_with fail
                  refine (above_any ps (.pointer (some ⟨gp, 0, none⟩)) f f wr H2.out).mono ?_
                  rintro e w5 ⟨rfl, hbn⟩
                  have H2n : Hid (Pc w5 (.pointer (some ⟨gp, 0, none⟩)) ps) := H2.out.later hbn
                  have B2n : Hid (Below w.heap.size w w5) := below_step B2.out hbn
                  clear hbn H2 B2
                  have H2 := H2n
                  have B2 := B2n
                  clear H2n B2n
                  rw [Hff.out]
                  go_wp2_with fail
                  refine (above_any ps (.pointer (some ⟨gp, 0, none⟩)) f g w5 H2.out).mono ?_
                  rintro e w6 ⟨rfl, hbn⟩
                  have H2n : Hid (Pc w6 (.pointer (some ⟨gp, 0, none⟩)) ps) := H2.out.later hbn
                  have B2n : Hid (Below w.heap.size w w6) := below_step B2.out hbn
                  clear hbn H2 B2
                  have H2 := H2n
                  have B2 := B2n
                  clear H2n B2n
                  rw [Hfg.out]
                  go_wp2_with fail
                  refine (above_any ps (.pointer (some ⟨gp, 0, none⟩)) f g w6 H2.out).mono ?_
                  rintro e w7 ⟨rfl, hbn⟩
                  have H2n : Hid (Pc w7 (.pointer (some ⟨gp, 0, none⟩)) ps) := H2.out.later hbn
                  have B2n : Hid (Below w.heap.size w w7) := below_step B2.out hbn
                  clear hbn H2 B2
                  have H2 := H2n
                  have B2 := B2n
                  clear H2n B2n
                  rw [Hfg.out]
                  go_wp2
                  go_ret
                  exact ⟨rfl, B2.out⟩
                · have r4 : n ≤ g := by omega
                  go_wp2_with fail
                  refine (above_any ps (.pointer (some ⟨gp, 0, none⟩)) f f wr H2.out).mono ?_
                  rintro e w5 ⟨rfl, hbn⟩
                  have H2n : Hid (Pc w5 (.pointer (some ⟨gp, 0, none⟩)) ps) := H2.out.later hbn
                  have B2n : Hid (Below w.heap.size w w5) := below_step B2.out hbn
                  clear hbn H2 B2
                  have H2 := H2n
                  have B2 := B2n
                  clear H2n B2n
                  rw [Hff.out]
                  go_wp2_with fail
                  refine (above_any ps (.pointer (some ⟨gp, 0, none⟩)) f g w5 H2.out).mono ?_
                  rintro e w6 ⟨rfl, hbn⟩
                  have H2n : Hid (Pc w6 (.pointer (some ⟨gp, 0, none⟩)) ps) := H2.out.later hbn
                  have B2n : Hid (Below w.heap.size w w6) := below_step B2.out hbn
                  clear hbn H2 B2
                  have H2 := H2n
                  have B2 := B2n
                  clear H2n B2n
                  rw [Hfg.out]
                  go_wp2_with fail
                  refine (above_any ps (.pointer (some ⟨gp, 0, none⟩)) f g w6 H2.out).mono ?_
                  rintro e w7 ⟨rfl, hbn⟩
                  have H2n : Hid (Pc w7 (.pointer (some ⟨gp, 0, none⟩)) ps) := H2.out.later hbn
                  have B2n : Hid (Below w.heap.size w w7) := below_step B2.out hbn
                  clear hbn H2 B2
                  have H2 := H2n
                  have B2 := B2n
                  clear H2n B2n
                  rw [Hfg.out]
                  go_wp2_with fail
                  refine (above_any ps (.pointer (some ⟨gp, 0, none⟩)) f g w7 H2.out).mono ?_
                  rintro e w8 ⟨rfl, hbn⟩
                  have H2n : Hid (Pc w8 (.pointer (some ⟨gp, 0, none⟩)) ps) := H2.out.later hbn
                  have B2n : Hid (Below w.heap.size w w8) := below_step B2.out hbn
                  clear hbn H2 B2
                  have H2 := H2n
                  have B2 := B2n
                  clear H2n B2n
                  rw [Hfg.out]
                  go_wp2
                  go_ret
                  exact ⟨rfl, B2.out⟩
              · have r3 : g < 0 := by omega
                go_wp2_with fail
                refine (above_any ps (.pointer (some ⟨gp, 0, none⟩)) f f wr H2.out).mono ?_
                rintro e w5 ⟨rfl, hbn⟩
                have H2n : Hid (Pc w5 (.pointer (some ⟨gp, 0, none⟩)) ps) := H2.out.later hbn
                have B2n : Hid (Below w.heap.size w w5) := below_step B2.out hbn
                clear hbn H2 B2
                have H2 := H2n
                have B2 := B2n
                clear H2n B2n
                rw [Hff.out]
                go_wp2_with fail
                refine (above_any ps (.pointer (some ⟨gp, 0, none⟩)) f g w5 H2.out).mono ?_
                rintro e w6 ⟨rfl, hbn⟩
                have H2n : Hid (Pc w6 (.pointer (some ⟨gp, 0, none⟩)) ps) := H2.out.later hbn
                have B2n : Hid (Below w.heap.size w w6) := below_step B2.out hbn
                clear hbn H2 B2
                have H2 := H2n
                have B2 := B2n
                clear H2n B2n
                rw [Hfg.out]
                go_wp2_with fail
                refine (above_any ps (.pointer (some ⟨gp, 0, none⟩)) f g w6 H2.out).mono ?_
                rintro e w7 ⟨rfl, hbn⟩
                have H2n : Hid (Pc w7 (.pointer (some ⟨gp, 0, none⟩)) ps) := H2.out.later hbn
                have B2n : Hid (Below w.heap.size w w7) := below_step B2.out hbn
                clear hbn H2 B2
                have H2 := H2n
                have B2 := B2n
                clear H2n B2n
                rw [Hfg.out]
                go_wp2_with fail
                refine (above_any ps (.pointer (some ⟨gp, 0, none⟩)) f g w7 H2.out).mono ?_
                rintro e w8 ⟨rfl, hbn⟩
                have H2n : Hid (Pc w8 (.pointer (some ⟨gp, 0, none⟩)) ps) := H2.out.later hbn
                have B2n : Hid (Below w.heap.size w w8) := below_step B2.out hbn
                clear hbn H2 B2
                have H2 := H2n
                have B2 := B2n
                clear H2n B2n
                rw [Hfg.out]
                go_wp2
                go_ret
                exact ⟨rfl, B2.out⟩
            · have r2 : n ≤ f := by omega
              go_wp2_with fail
              refine (above_any ps (.pointer (some ⟨gp, 0, none⟩)) f f wr H2.out).mono ?_
              rintro e w5 ⟨rfl, hbn⟩
              have H2n : Hid (Pc w5 (.pointer (some ⟨gp, 0, none⟩)) ps) := H2.out.later hbn
              have B2n : Hid (Below w.heap.size w w5) := below_step B2.out hbn
              clear hbn H2 B2
              have H2 := H2n
              have B2 := B2n
              clear H2n B2n
              rw [Hff.out]
              go_wp2_with fail
              refine (above_any ps (.pointer (some ⟨gp, 0, none⟩)) f g w5 H2.out).mono ?_
              rintro e w6 ⟨rfl, hbn⟩
              have H2n : Hid (Pc w6 (.pointer (some ⟨gp, 0, none⟩)) ps) := H2.out.later hbn
              have B2n : Hid (Below w.heap.size w w6) := below_step B2.out hbn
              clear hbn H2 B2
              have H2 := H2n
              have B2 := B2n
              clear H2n B2n
              rw [Hfg.out]
              go_wp2_with fail
              refine (above_any ps (.pointer (some ⟨gp, 0, none⟩)) f g w6 H2.out).mono ?_
              rintro e w7 ⟨rfl, hbn⟩
              have H2n : Hid (Pc w7 (.pointer (some ⟨gp, 0, none⟩)) ps) := H2.out.later hbn
              have B2n : Hid (Below w.heap.size w w7) := below_step B2.out hbn
              clear hbn H2 B2
              have H2 := H2n
              have B2 := B2n
              clear H2n B2n
              rw [Hfg.out]
              go_wp2_with fail
              refine (above_any ps (.pointer (some ⟨gp, 0, none⟩)) f g w7 H2.out).mono ?_
              rintro e w8 ⟨rfl, hbn⟩
              have H2n : Hid (Pc w8 (.pointer (some ⟨gp, 0, none⟩)) ps) := H2.out.later hbn
              have B2n : Hid (Below w.heap.size w w8) := below_step B2.out hbn
              clear hbn H2 B2
              have H2 := H2n
              have B2 := B2n
              clear H2n B2n
              rw [Hfg.out]
              go_wp2
              go_ret
              exact ⟨rfl, B2.out⟩
          · have r1 : f < 0 := by omega
            go_wp2_with fail
            refine (above_any ps (.pointer (some ⟨gp, 0, none⟩)) f f wr H2.out).mono ?_
            rintro e w5 ⟨rfl, hbn⟩
            have H2n : Hid (Pc w5 (.pointer (some ⟨gp, 0, none⟩)) ps) := H2.out.later hbn
            have B2n : Hid (Below w.heap.size w w5) := below_step B2.out hbn
            clear hbn H2 B2
            have H2 := H2n
            have B2 := B2n
            clear H2n B2n
            rw [Hff.out]
            go_wp2_with fail
            refine (above_any ps (.pointer (some ⟨gp, 0, none⟩)) f g w5 H2.out).mono ?_
            rintro e w6 ⟨rfl, hbn⟩
            have H2n : Hid (Pc w6 (.pointer (some ⟨gp, 0, none⟩)) ps) := H2.out.later hbn
            have B2n : Hid (Below w.heap.size w w6) := below_step B2.out hbn
            clear hbn H2 B2
            have H2 := H2n
            have B2 := B2n
            clear H2n B2n
            rw [Hfg.out]
            go_wp2_with fail
            refine (above_any ps (.pointer (some ⟨gp, 0, none⟩)) f g w6 H2.out).mono ?_
            rintro e w7 ⟨rfl, hbn⟩
            have H2n : Hid (Pc w7 (.pointer (some ⟨gp, 0, none⟩)) ps) := H2.out.later hbn
            have B2n : Hid (Below w.heap.size w w7) := below_step B2.out hbn
            clear hbn H2 B2
            have H2 := H2n
            have B2 := B2n
            clear H2n B2n
            rw [Hfg.out]
            go_wp2_with fail
            refine (above_any ps (.pointer (some ⟨gp, 0, none⟩)) f g w7 H2.out).mono ?_
            rintro e w8 ⟨rfl, hbn⟩
            have H2n : Hid (Pc w8 (.pointer (some ⟨gp, 0, none⟩)) ps) := H2.out.later hbn
            have B2n : Hid (Below w.heap.size w w8) := below_step B2.out hbn
            clear hbn H2 B2
            have H2 := H2n
            have B2 := B2n
            clear H2n B2n
            rw [Hfg.out]
            go_wp2
            go_ret
            exact ⟨rfl, B2.out⟩
        | true =>
          have hgf := abB_back H0.out hfg
          have hin := abB_in HI.out hfg
          obtain ⟨q1, q2, q3, q4⟩ := hin
          have Hfg := hidP hfg
          have Hgf := hidP hgf
          clear hgf
          cases hgh : abB ps g h with
          | false =>
            have Hgh := hidP hgh
            clear hgh hfg
            go_wp2_with fail
            refine (above_any ps (.pointer (some ⟨gp, 0, none⟩)) f f wr H2.out).mono ?_
            rintro e w5 ⟨rfl, hbn⟩
            have H2n : Hid (Pc w5 (.pointer (some ⟨gp, 0, none⟩)) ps) := H2.out.later hbn
            have B2n : Hid (Below w.heap.size w w5) := below_step B2.out hbn
            clear hbn H2 B2
            have H2 := H2n
            have B2 := B2n
            clear H2n B2n
            rw [Hff.out]
            go_wp2_with fail
            refine (above_any ps (.pointer (some ⟨gp, 0, none⟩)) f g w5 H2.out).mono ?_
            rintro e w6 ⟨rfl, hbn⟩
            have H2n : Hid (Pc w6 (.pointer (some ⟨gp, 0, none⟩)) ps) := H2.out.later hbn
            have B2n : Hid (Below w.heap.size w w6) := below_step B2.out hbn
            clear hbn H2 B2
            have H2 := H2n
            have B2 := B2n
            clear H2n B2n
            rw [Hfg.out]
            go_wp2_with fail
            refine (above_any ps (.pointer (some ⟨gp, 0, none⟩)) g f w6 H2.out).mono ?_
            rintro e w7 ⟨rfl, hbn⟩
            have H2n : Hid (Pc w7 (.pointer (some ⟨gp, 0, none⟩)) ps) := H2.out.later hbn
            have B2n : Hid (Below w.heap.size w w7) := below_step B2.out hbn
            clear hbn H2 B2
            have H2 := H2n
            have B2 := B2n
            clear H2n B2n
            rw [Hgf.out]
            go_wp2_with fail
            refine (above_any ps (.pointer (some ⟨gp, 0, none⟩)) f g w7 H2.out).mono ?_
            rintro e w8 ⟨rfl, hbn⟩
            have H2n : Hid (Pc w8 (.pointer (some ⟨gp, 0, none⟩)) ps) := H2.out.later hbn
            have B2n : Hid (Below w.heap.size w w8) := below_step B2.out hbn
            clear hbn H2 B2
            have H2 := H2n
            have B2 := B2n
            clear H2n B2n
            rw [Hfg.out]
            go_wp2_with fail
            refine (above_any ps (.pointer (some ⟨gp, 0, none⟩)) g h w8 H2.out).mono ?_
            rintro e w9 ⟨rfl, hbn⟩
            have H2n : Hid (Pc w9 (.pointer (some ⟨gp, 0, none⟩)) ps) := H2.out.later hbn
            have B2n : Hid (Below w.heap.size w w9) := below_step B2.out hbn
            clear hbn H2 B2
            have H2 := H2n
            have B2 := B2n
            clear H2n B2n
            rw [Hgh.out]
            go_wp2
            go_ret
            exact ⟨rfl, B2.out⟩
          | true =>
            have Hfh := hidP (abB_on hfg hgh)
            have Hgh := hidP hgh
            clear hgh hfg
            go_wp2_with fail
            refine (above_any ps (.pointer (some ⟨gp, 0, none⟩)) f f wr H2.out).mono ?_
            rintro e w5 ⟨rfl, hbn⟩
            have H2n : Hid (Pc w5 (.pointer (some ⟨gp, 0, none⟩)) ps) := H2.out.later hbn
            have B2n : Hid (Below w.heap.size w w5) := below_step B2.out hbn
            clear hbn H2 B2
            have H2 := H2n
            have B2 := B2n
            clear H2n B2n
            rw [Hff.out]
            go_wp2_with fail
            refine (above_any ps (.pointer (some ⟨gp, 0, none⟩)) f g w5 H2.out).mono ?_
            rintro e w6 ⟨rfl, hbn⟩
            have H2n : Hid (Pc w6 (.pointer (some ⟨gp, 0, none⟩)) ps) := H2.out.later hbn
            have B2n : Hid (Below w.heap.size w w6) := below_step B2.out hbn
            clear hbn H2 B2
            have H2 := H2n
            have B2 := B2n
            clear H2n B2n
            rw [Hfg.out]
            go_wp2_with fail
            refine (above_any ps (.pointer (some ⟨gp, 0, none⟩)) g f w6 H2.out).mono ?_
            rintro e w7 ⟨rfl, hbn⟩
            have H2n : Hid (Pc w7 (.pointer (some ⟨gp, 0, none⟩)) ps) := H2.out.later hbn
            have B2n : Hid (Below w.heap.size w w7) := below_step B2.out hbn
            clear hbn H2 B2
            have H2 := H2n
            have B2 := B2n
            clear H2n B2n
            rw [Hgf.out]
            go_wp2_with fail
            refine (above_any ps (.pointer (some ⟨gp, 0, none⟩)) f g w7 H2.out).mono ?_
            rintro e w8 ⟨rfl, hbn⟩
            have H2n : Hid (Pc w8 (.pointer (some ⟨gp, 0, none⟩)) ps) := H2.out.later hbn
            have B2n : Hid (Below w.heap.size w w8) := below_step B2.out hbn
            clear hbn H2 B2
            have H2 := H2n
            have B2 := B2n
            clear H2n B2n
            rw [Hfg.out]
            go_wp2_with fail
            refine (above_any ps (.pointer (some ⟨gp, 0, none⟩)) g h w8 H2.out).mono ?_
            rintro e w9 ⟨rfl, hbn⟩
            have H2n : Hid (Pc w9 (.pointer (some ⟨gp, 0, none⟩)) ps) := H2.out.later hbn
            have B2n : Hid (Below w.heap.size w w9) := below_step B2.out hbn
            clear hbn H2 B2
            have H2 := H2n
            have B2 := B2n
            clear H2n B2n
            rw [Hgh.out]
            go_wp2_with fail
            refine (above_any ps (.pointer (some ⟨gp, 0, none⟩)) f h w9 H2.out).mono ?_
            rintro e w10 ⟨rfl, hbn⟩
            have H2n : Hid (Pc w10 (.pointer (some ⟨gp, 0, none⟩)) ps) := H2.out.later hbn
            have B2n : Hid (Below w.heap.size w w10) := below_step B2.out hbn
            clear hbn H2 B2
            have H2 := H2n
            have B2 := B2n
            clear H2n B2n
            rw [Hfh.out]
            go_wp2
            go_ret
            exact ⟨rfl, B2.out⟩
  · have hb2 := hc.1
    obtain ⟨hb2, rfl⟩ := hc.err rfl h0
    have B2 : Hid (Below w.heap.size w w2) := below_step B1.out hb2
    clear hc hb2 B1
    generalize closeE n ps = c at h0 ⊢
    go_wp2
    go_ret
    exact ⟨ret1b (by simpa using h0), B2.out⟩



end Go.Proofs.Ytagndlcpcggmpaa
