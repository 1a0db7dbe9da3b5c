/- newSearch of package graph walked. -/
import Derived.Test.YtmokokhhheonoaaOwn3
namespace Go.Proofs.Ytmokokhhheonoaa
open Go.RowKit Go.Maps Go.BigFrame

def zer14 (n : Nat) : Array Value := ((List.replicate n (0 : Int)).map I64).toArray

theorem run_make14 (w : World) (n : Nat) (hn : n * 8 ≤ 140737488355328) : (Instr.makeSlice 26 (.int .i64 (n : Int)) (.int .i64 (n : Int))).run Try.prog w = .ok (.slice (some ⟨w.heap.size, 0, none⟩) n n) (w.alloc (.cells (zer14 n) 3)) := by
  obtain ⟨i0, hi, hz0, hz1, hz2⟩ := info_parts info_int
  have h := run_make (P := Try.prog) w 26 3 i0 (.int .i64 0) under_ints hi hz0 .i64 .i64 (n : Int) (n : Int) (by omega) (Int.le_refl _) (by rw [hz2]; omega) (by omega)
  rw [hz1, Int.toNat_natCast] at h
  have e : madeCells (Value.int .i64 0).cells (n * 1) = zer14 n := by
    unfold zer14
    apply Array.ext'
    rw [made_zero64]
  rw [e] at h
  exact h

theorem ow_zero14 (w : World) (n : Nat) (hn : n ≤ 1048576) : OwI (w.alloc (.cells (zer14 n) 3)) w.heap.size (.slice (some ⟨w.heap.size, 0, none⟩) n n) (List.replicate n 0) := by
  refine ⟨fun k x hk => ?_, by simp, .inr ⟨w.heap.size, n, zer14 n, by simp, Nat.le_refl _, heap_alloc_new _ _, by simp, by unfold maxLen; omega, by simp [zer14], ?_⟩⟩
  · rw [List.getElem?_replicate] at hk
    split at hk
    · cases hk; omega
    · cases hk
  · unfold zer14
    rw [List.take_of_length_le (by simp)]

theorem ow_nil14 (w : World) (base : Nat) : OwI w base (.slice none 0 0) (natL []) := ⟨fun k x hk => by simp [natL] at hk, rfl, .inl ⟨rfl, rfl⟩⟩

theorem dis_nil14 (v : Value) : Dis (.slice none 0 0) v := fun g h => by simp [Value.ownBlock] at h

theorem rngI_rep (n : Nat) (x : Int) : rngI n (fun _ => x) = List.replicate n x := by
  unfold rngI
  rw [List.map_const', List.length_range]

theorem rngN_rep (n : Nat) : rngN n (fun _ => 0) = List.replicate n 0 := rngI_rep n 0

/-- The search as it begins. -/
theorem start14 {w x0 W : World} {n ia i7 i10 : Nat} {l : List (Value × List Int)} {va v7 v10 : Value} (b0 : Below w.heap.size w x0) (j : Below x0.heap.size x0 W) (h : Owns W w.heap.size l) (e1 : ia ≠ i7) (e2 : ia ≠ i10) (e3 : i7 ≠ i10) (ha : l[ia]? = some (va, List.replicate n (-1))) (h7 : l[i7]? = some (v7, List.replicate n 0)) (h10 : l[i10]? = some (v10, List.replicate n 0)) (gv : Value) :
    SM [] w (W.alloc (.cells #[gv, .slice none 0 0, va, v7, v10, .slice none 0 0, .slice none 0 0] 38)) W.heap.size n Sr.start gv (.slice none 0 0) va v7 v10 (.slice none 0 0) (.slice none 0 0) [] := by
  have hb := below_step b0 j
  refine ⟨below_step hb (below_alloc _), hb.size, heap_alloc_new _ _, Owns.later ?_ (below_alloc _), ⟨rfl, .inl ⟨rfl, rfl⟩⟩, rfl, fun x hx => by simp at hx⟩
  have hl : ([((.slice none 0 0 : Value), natL Sr.start.op), (va, rngI n Sr.start.A), (v7, rngI n Sr.start.L), (v10, rngN n Sr.start.g), ((.slice none 0 0 : Value), natL Sr.start.pa)] ++ ([] : List Value).zip (Sr.start.ps.map natL)) = [((.slice none 0 0 : Value), natL []), (va, List.replicate n (-1)), (v7, List.replicate n 0), (v10, List.replicate n 0), ((.slice none 0 0 : Value), natL [])] := by
    show [((.slice none 0 0 : Value), natL []), (va, rngI n (fun _ => -1)), (v7, rngI n (fun _ => 0)), (v10, rngN n (fun _ => 0)), ((.slice none 0 0 : Value), natL [])] = _
    rw [rngI_rep, rngI_rep, rngN_rep]
  rw [hl]
  have da7 := h.dis _ _ _ _ _ _ e1 ha h7
  have da10 := h.dis _ _ _ _ _ _ e2 ha h10
  have d710 := h.dis _ _ _ _ _ _ e3 h7 h10
  refine ⟨fun i v xs hi => ?_, fun i k v u xs ys hik hi hk => ?_⟩
  · match i with
    | 0 => cases hi; exact ow_nil14 _ _
    | 1 => cases hi; exact h.own _ _ _ ha
    | 2 => cases hi; exact h.own _ _ _ h7
    | 3 => cases hi; exact h.own _ _ _ h10
    | 4 => cases hi; exact ow_nil14 _ _
    | _ + 5 => cases hi
  · match i, k with
    | 0, _ => cases hi; exact dis_nil14 _
    | 4, _ => cases hi; exact dis_nil14 _
    | _, 0 => cases hk; exact (dis_nil14 _).symm
    | _, 4 => cases hk; exact (dis_nil14 _).symm
    | 1, 1 => omega
    | 2, 2 => omega
    | 3, 3 => omega
    | 1, 2 => cases hi; cases hk; exact da7
    | 2, 1 => cases hi; cases hk; exact da7.symm
    | 1, 3 => cases hi; cases hk; exact da10
    | 3, 1 => cases hi; cases hk; exact da10.symm
    | 2, 3 => cases hi; cases hk; exact d710
    | 3, 2 => cases hi; cases hk; exact d710.symm
    | _ + 5, _ => cases hi
    | _, _ + 5 => cases hk

set_option maxRecDepth 100000 in
set_option maxHeartbeats 3200000 in
theorem newSearch_any {w : World} {G : List (List Int)} {gv : Value} (hG : Rs w gv G) (hn : G.length ≤ 1048576) :
    Calls Try.prog 17 #[gv] w fun e w' => ∃ b va v7 v10, e = .returned (.pointer (some ⟨b, 0, none⟩)) ∧ SM [] w w' b G.length Sr.start gv (.slice none 0 0) va v7 v10 (.slice none 0 0) (.slice none 0 0) [] := by
  obtain ⟨ao, cap, rfl, hc, hm, _⟩ := Row.flat hG
  obtain ⟨n, hnl⟩ : ∃ n, n = G.length := ⟨_, rfl⟩
  rw [← hnl] at hn hc ⊢
  clear hnl hG
  go_enter Try.func17, Try.ntmps17
  go_wp2_with fail
  have hS : Kp w w.drew := Kp.of_below (drawn_below1 w)
  refine wp_region_held_drew (S := fun w' => Kp w w') (by kernel_rfl) hS (fun _ => ?_)
  obtain ⟨x0, hx0⟩ : ∃ X, X = w.drew := ⟨_, rfl⟩
  have b0 : Below w.heap.size w x0 := by rw [hx0]; exact drawn_below1 w
  have wx0 : Owns x0 w.heap.size [] := ⟨fun i v xs hi => by simp at hi, fun i j v u xs ys _ hi => by simp at hi⟩
  rw [← hx0] at hS ⊢
  clear hx0
  refine wpAnyH_take (i := 0) (v := .slice ao n cap) rfl (by kernel_rfl) (by kernel_rfl) (by kernel_rfl) (fun _ _ _ h => h) (Or.inl ⟨by kernel_rfl, fun w' h => by go_simp⟩) hS ?_
  (try simp only [Act.put]); (try simp only [List.setIfInBounds_toArray]); (try simp only [List.set_cons_zero, List.set_cons_succ])
  refine wpAnyH_take (i := 2) (v := .slice ao n cap) rfl (by kernel_rfl) (by kernel_rfl) (by kernel_rfl) (fun _ _ _ h => h) (Or.inl ⟨by kernel_rfl, fun w' h => by go_simp⟩) hS ?_
  (try simp only [Act.put]); (try simp only [List.setIfInBounds_toArray]); (try simp only [List.set_cons_zero, List.set_cons_succ])
  refine wpAnyH_take (i := 3) (v := .int .i64 (n : Int)) rfl (by kernel_rfl) (by kernel_rfl) (by kernel_rfl) (fun _ _ _ h => h) (Or.inl ⟨by kernel_rfl, fun w' h => by go_simp⟩) hS ?_
  (try simp only [Act.put]); (try simp only [List.setIfInBounds_toArray]); (try simp only [List.set_cons_zero, List.set_cons_succ])
  refine wpAnyH_take (i := 5) (v := .slice ao n cap) rfl (by kernel_rfl) (by kernel_rfl) (by kernel_rfl) (fun _ _ _ h => h) (Or.inl ⟨by kernel_rfl, fun w' h => by go_simp⟩) hS ?_
  (try simp only [Act.put]); (try simp only [List.setIfInBounds_toArray]); (try simp only [List.set_cons_zero, List.set_cons_succ])
  refine wpAnyH_take (i := 6) (v := .int .i64 (n : Int)) rfl (by kernel_rfl) (by kernel_rfl) (by kernel_rfl) (fun _ _ _ h => h) (Or.inl ⟨by kernel_rfl, fun w' h => by go_simp⟩) hS ?_
  (try simp only [Act.put]); (try simp only [List.setIfInBounds_toArray]); (try simp only [List.set_cons_zero, List.set_cons_succ])
  refine wpAnyH_take (i := 8) (v := .slice ao n cap) rfl (by kernel_rfl) (by kernel_rfl) (by kernel_rfl) (fun _ _ _ h => h) (Or.inl ⟨by kernel_rfl, fun w' h => by go_simp⟩) hS ?_
  (try simp only [Act.put]); (try simp only [List.setIfInBounds_toArray]); (try simp only [List.set_cons_zero, List.set_cons_succ])
  refine wpAnyH_take (i := 9) (v := .int .i64 (n : Int)) rfl (by kernel_rfl) (by kernel_rfl) (by kernel_rfl) (fun _ _ _ h => h) (Or.inl ⟨by kernel_rfl, fun w' h => by go_simp⟩) hS ?_
  (try simp only [Act.put]); (try simp only [List.setIfInBounds_toArray]); (try simp only [List.set_cons_zero, List.set_cons_succ])
  refine wpAnyH_ready (rs := [1, 7, 10]) (by kernel_rfl) (by simp) (AllReadyH.cons rfl (fun K hK => ?_) (AllReadyH.cons rfl (fun K hK => ?_) (AllReadyH.cons rfl (fun K hK => ?_) AllReadyH.nil)))
  · skip
    go_simp
    have jx1 := below_alloc (w := x0) (.cells #[.int .i64 (-1)] 3)
    have lx := is_new x0 [-1] 3 (by decide) (by decide)
    change Is (x0.alloc (.cells #[.int .i64 (-1)] 3)) (.slice (some ⟨x0.heap.size, 0, none⟩) 1 1) _ at lx
    obtain ⟨gx, hgx⟩ : ∃ X, X = x0.heap.size := ⟨_, rfl⟩
    obtain ⟨x1, hx1⟩ : ∃ X, X = x0.alloc (.cells #[.int .i64 (-1)] 3) := ⟨_, rfl⟩
    have wx1 := wx0.later jx1
    rw [← hx1] at jx1 wx1 lx ⊢
    rw [← hgx] at lx ⊢
    clear hx1 hgx
    have kx1 : Kp w x1 := hS.trans (Kp.of_below jx1)
    refine hK.out _ _ kx1 (fun _ => ?_)
    clear hK K hS
    have hS := kx1
    clear kx1
    (try simp only [Act.put]); (try simp only [List.setIfInBounds_toArray]); (try simp only [List.set_cons_zero, List.set_cons_succ])
    refine wpAnyH_ready (rs := [4, 7, 10]) (by kernel_rfl) (by simp) (AllReadyH.cons rfl (fun K hK => ?_) (AllReadyH.cons rfl (fun K hK => ?_) (AllReadyH.cons rfl (fun K hK => ?_) AllReadyH.nil)))
    · skip
      go_simp
      refine (repeat_any lx hn).mono ?_
      rintro e x2 ⟨va, rfl, oa, jx2⟩
      obtain ⟨vo, vc, hva, _, _⟩ := oa.shape
      rw [List.length_replicate] at hva
      subst hva
      have wx2 := wx1.snoc jx2 oa ((below_step b0 jx1)).size
      have kx2 : Kp w x2 := hS.trans (Kp.of_below jx2)
      refine hK.out _ _ kx2 (fun _ => ?_)
      clear hK K hS
      have hS := kx2
      clear kx2
      (try simp only [Act.put]); (try simp only [List.setIfInBounds_toArray]); (try simp only [List.set_cons_zero, List.set_cons_succ])
      refine wpAnyH_ready (rs := [7, 10]) (by kernel_rfl) (by simp) (AllReadyH.cons rfl (fun K hK => ?_) (AllReadyH.cons rfl (fun K hK => ?_) AllReadyH.nil))
      · skip
        have hmk := run_make14 x2 n (by omega)
        go_simp
        have jx3 := below_alloc (w := x2) (.cells (zer14 n) 3)
        have o7 := ow_zero14 x2 n hn
        obtain ⟨x3, hx3⟩ : ∃ X, X = x2.alloc (.cells (zer14 n) 3) := ⟨_, rfl⟩
        rw [← hx3] at jx3 o7 ⊢
        have wx3 := wx2.snoc jx3 o7 ((below_step b0 (below_step jx1 jx2))).size
        obtain ⟨g7, hg7⟩ : ∃ X, X = x2.heap.size := ⟨_, rfl⟩
        rw [← hg7] at wx3 ⊢
        clear hx3 hg7 hmk o7
        have kx3 : Kp w x3 := hS.trans (Kp.of_below jx3)
        refine hK.out _ _ kx3 (fun _ => ?_)
        clear hK K hS
        have hS := kx3
        clear kx3
        (try simp only [Act.put]); (try simp only [List.setIfInBounds_toArray]); (try simp only [List.set_cons_zero, List.set_cons_succ])
        refine wpAnyH_ready (rs := [10]) (by kernel_rfl) (by simp) (AllReadyH.cons rfl (fun K hK => ?_) AllReadyH.nil)
        have hmk := run_make14 x3 n (by omega)
        go_simp
        have jx4 := below_alloc (w := x3) (.cells (zer14 n) 3)
        have o10 := ow_zero14 x3 n hn
        obtain ⟨x4, hx4⟩ : ∃ X, X = x3.alloc (.cells (zer14 n) 3) := ⟨_, rfl⟩
        rw [← hx4] at jx4 o10 ⊢
        have wx4 := wx3.snoc jx4 o10 ((below_step b0 (below_step (below_step jx1 jx2) jx3))).size
        obtain ⟨g10, hg10⟩ : ∃ X, X = x3.heap.size := ⟨_, rfl⟩
        rw [← hg10] at wx4 ⊢
        clear hx4 hg10 hmk o10
        have kx4 : Kp w x4 := hS.trans (Kp.of_below jx4)
        refine hK.out _ _ kx4 (fun _ => ?_)
        clear hK K hS
        have hS := kx4
        clear kx4
        (try simp only [Act.put]); (try simp only [List.setIfInBounds_toArray]); (try simp only [List.set_cons_zero, List.set_cons_succ])
        refine wpAnyH_take (i := 11) (v := .agg #[.slice ao n cap, .slice none 0 0, .slice vo n vc, .slice (some ⟨g7, 0, none⟩) n n, .slice (some ⟨g10, 0, none⟩) n n, .slice none 0 0, .slice none 0 0]) rfl (by kernel_rfl) (by kernel_rfl) (by kernel_rfl) (fun _ _ _ h => h) (Or.inl ⟨by kernel_rfl, fun w' h => by go_simp⟩) hS ?_
        (try simp only [Act.put]); (try simp only [List.setIfInBounds_toArray]); (try simp only [List.set_cons_zero, List.set_cons_succ])
        have HF := hid (start14 b0 (below_step (below_step (below_step jx1 jx2) jx3) jx4) wx4 (ia := 0) (i7 := 1) (i10 := 2) (by decide) (by decide) (by decide) rfl rfl rfl (.slice ao n cap))
        refine wpAnyH_ready (rs := [12]) (by kernel_rfl) (by simp) (AllReadyH.cons rfl (fun K hK => ?_) AllReadyH.nil)
        go_simp
        obtain ⟨xe, hxe⟩ : ∃ X, X = x4.alloc (.cells #[.slice ao n cap, .slice none 0 0, .slice vo n vc, .slice (some ⟨g7, 0, none⟩) n n, .slice (some ⟨g10, 0, none⟩) n n, .slice none 0 0, .slice none 0 0] 38) := ⟨_, rfl⟩
        have ke : Kp w xe := hS.trans (by rw [hxe]; exact Kp.of_below (below_alloc _))
        rw [← hxe] at HF ⊢
        clear hxe
        refine hK.out _ _ ke (fun _ => ?_)
        clear hK K hS
        have hS := ke
        (try simp only [Act.put]); (try simp only [List.setIfInBounds_toArray]); (try simp only [List.set_cons_zero, List.set_cons_succ])
        generalize x4.heap.size = bb at HF ⊢
        refine wpAnyH_take (i := 13) (v := .pointer (some ⟨bb, 0, none⟩)) rfl (by kernel_rfl) (by kernel_rfl) (by kernel_rfl) (fun _ _ _ h => h) (Or.inl ⟨by kernel_rfl, fun w' h => by go_simp⟩) hS ?_
        (try simp only [Act.put]); (try simp only [List.setIfInBounds_toArray]); (try simp only [List.set_cons_zero, List.set_cons_succ])
        refine wpAnyH_done (by kernel_rfl) ?_ _
        (try simp only [List.append]); (try simp only [Act.put]); (try simp only [List.getElem_toArray]); (try simp only [List.getElem_cons_succ, List.getElem_cons_zero]); (try simp only [List.setIfInBounds_toArray]); (try simp only [List.set_cons_succ, List.set_cons_zero])
        go_wp2
        go_ret
        exact ⟨_, _, _, _, rfl, HF.out⟩
      · skip
        have hmk := run_make14 x2 n (by omega)
        go_simp
        have jx5 := below_alloc (w := x2) (.cells (zer14 n) 3)
        have o10 := ow_zero14 x2 n hn
        obtain ⟨x5, hx5⟩ : ∃ X, X = x2.alloc (.cells (zer14 n) 3) := ⟨_, rfl⟩
        rw [← hx5] at jx5 o10 ⊢
        have wx5 := wx2.snoc jx5 o10 ((below_step b0 (below_step jx1 jx2))).size
        obtain ⟨g10, hg10⟩ : ∃ X, X = x2.heap.size := ⟨_, rfl⟩
        rw [← hg10] at wx5 ⊢
        clear hx5 hg10 hmk o10
        have kx5 : Kp w x5 := hS.trans (Kp.of_below jx5)
        refine hK.out _ _ kx5 (fun _ => ?_)
        clear hK K hS
        have hS := kx5
        clear kx5
        (try simp only [Act.put]); (try simp only [List.setIfInBounds_toArray]); (try simp only [List.set_cons_zero, List.set_cons_succ])
        refine wpAnyH_ready (rs := [7]) (by kernel_rfl) (by simp) (AllReadyH.cons rfl (fun K hK => ?_) AllReadyH.nil)
        have hmk := run_make14 x5 n (by omega)
        go_simp
        have jx6 := below_alloc (w := x5) (.cells (zer14 n) 3)
        have o7 := ow_zero14 x5 n hn
        obtain ⟨x6, hx6⟩ : ∃ X, X = x5.alloc (.cells (zer14 n) 3) := ⟨_, rfl⟩
        rw [← hx6] at jx6 o7 ⊢
        have wx6 := wx5.snoc jx6 o7 ((below_step b0 (below_step (below_step jx1 jx2) jx5))).size
        obtain ⟨g7, hg7⟩ : ∃ X, X = x5.heap.size := ⟨_, rfl⟩
        rw [← hg7] at wx6 ⊢
        clear hx6 hg7 hmk o7
        have kx6 : Kp w x6 := hS.trans (Kp.of_below jx6)
        refine hK.out _ _ kx6 (fun _ => ?_)
        clear hK K hS
        have hS := kx6
        clear kx6
        (try simp only [Act.put]); (try simp only [List.setIfInBounds_toArray]); (try simp only [List.set_cons_zero, List.set_cons_succ])
        refine wpAnyH_take (i := 11) (v := .agg #[.slice ao n cap, .slice none 0 0, .slice vo n vc, .slice (some ⟨g7, 0, none⟩) n n, .slice (some ⟨g10, 0, none⟩) n n, .slice none 0 0, .slice none 0 0]) rfl (by kernel_rfl) (by kernel_rfl) (by kernel_rfl) (fun _ _ _ h => h) (Or.inl ⟨by kernel_rfl, fun w' h => by go_simp⟩) hS ?_
        (try simp only [Act.put]); (try simp only [List.setIfInBounds_toArray]); (try simp only [List.set_cons_zero, List.set_cons_succ])
        have HF := hid (start14 b0 (below_step (below_step (below_step jx1 jx2) jx5) jx6) wx6 (ia := 0) (i7 := 2) (i10 := 1) (by decide) (by decide) (by decide) rfl rfl rfl (.slice ao n cap))
        refine wpAnyH_ready (rs := [12]) (by kernel_rfl) (by simp) (AllReadyH.cons rfl (fun K hK => ?_) AllReadyH.nil)
        go_simp
        obtain ⟨xe, hxe⟩ : ∃ X, X = x6.alloc (.cells #[.slice ao n cap, .slice none 0 0, .slice vo n vc, .slice (some ⟨g7, 0, none⟩) n n, .slice (some ⟨g10, 0, none⟩) n n, .slice none 0 0, .slice none 0 0] 38) := ⟨_, rfl⟩
        have ke : Kp w xe := hS.trans (by rw [hxe]; exact Kp.of_below (below_alloc _))
        rw [← hxe] at HF ⊢
        clear hxe
        refine hK.out _ _ ke (fun _ => ?_)
        clear hK K hS
        have hS := ke
        (try simp only [Act.put]); (try simp only [List.setIfInBounds_toArray]); (try simp only [List.set_cons_zero, List.set_cons_succ])
        generalize x6.heap.size = bb at HF ⊢
        refine wpAnyH_take (i := 13) (v := .pointer (some ⟨bb, 0, none⟩)) rfl (by kernel_rfl) (by kernel_rfl) (by kernel_rfl) (fun _ _ _ h => h) (Or.inl ⟨by kernel_rfl, fun w' h => by go_simp⟩) hS ?_
        (try simp only [Act.put]); (try simp only [List.setIfInBounds_toArray]); (try simp only [List.set_cons_zero, List.set_cons_succ])
        refine wpAnyH_done (by kernel_rfl) ?_ _
        (try simp only [List.append]); (try simp only [Act.put]); (try simp only [List.getElem_toArray]); (try simp only [List.getElem_cons_succ, List.getElem_cons_zero]); (try simp only [List.setIfInBounds_toArray]); (try simp only [List.set_cons_succ, List.set_cons_zero])
        go_wp2
        go_ret
        exact ⟨_, _, _, _, rfl, HF.out⟩
    · skip
      have hmk := run_make14 x1 n (by omega)
      go_simp
      have jx7 := below_alloc (w := x1) (.cells (zer14 n) 3)
      have o7 := ow_zero14 x1 n hn
      obtain ⟨x7, hx7⟩ : ∃ X, X = x1.alloc (.cells (zer14 n) 3) := ⟨_, rfl⟩
      rw [← hx7] at jx7 o7 ⊢
      have wx7 := wx1.snoc jx7 o7 ((below_step b0 jx1)).size
      obtain ⟨g7, hg7⟩ : ∃ X, X = x1.heap.size := ⟨_, rfl⟩
      rw [← hg7] at wx7 ⊢
      clear hx7 hg7 hmk o7
      have kx7 : Kp w x7 := hS.trans (Kp.of_below jx7)
      refine hK.out _ _ kx7 (fun _ => ?_)
      clear hK K hS
      have hS := kx7
      clear kx7
      (try simp only [Act.put]); (try simp only [List.setIfInBounds_toArray]); (try simp only [List.set_cons_zero, List.set_cons_succ])
      refine wpAnyH_ready (rs := [4, 10]) (by kernel_rfl) (by simp) (AllReadyH.cons rfl (fun K hK => ?_) (AllReadyH.cons rfl (fun K hK => ?_) AllReadyH.nil))
      · skip
        go_simp
        refine (repeat_any (lx.kp (Kp.of_below jx7)) hn).mono ?_
        rintro e x8 ⟨va, rfl, oa, jx8⟩
        obtain ⟨vo, vc, hva, _, _⟩ := oa.shape
        rw [List.length_replicate] at hva
        subst hva
        have wx8 := wx7.snoc jx8 oa ((below_step b0 (below_step jx1 jx7))).size
        have kx8 : Kp w x8 := hS.trans (Kp.of_below jx8)
        refine hK.out _ _ kx8 (fun _ => ?_)
        clear hK K hS
        have hS := kx8
        clear kx8
        (try simp only [Act.put]); (try simp only [List.setIfInBounds_toArray]); (try simp only [List.set_cons_zero, List.set_cons_succ])
        refine wpAnyH_ready (rs := [10]) (by kernel_rfl) (by simp) (AllReadyH.cons rfl (fun K hK => ?_) AllReadyH.nil)
        have hmk := run_make14 x8 n (by omega)
        go_simp
        have jx9 := below_alloc (w := x8) (.cells (zer14 n) 3)
        have o10 := ow_zero14 x8 n hn
        obtain ⟨x9, hx9⟩ : ∃ X, X = x8.alloc (.cells (zer14 n) 3) := ⟨_, rfl⟩
        rw [← hx9] at jx9 o10 ⊢
        have wx9 := wx8.snoc jx9 o10 ((below_step b0 (below_step (below_step jx1 jx7) jx8))).size
        obtain ⟨g10, hg10⟩ : ∃ X, X = x8.heap.size := ⟨_, rfl⟩
        rw [← hg10] at wx9 ⊢
        clear hx9 hg10 hmk o10
        have kx9 : Kp w x9 := hS.trans (Kp.of_below jx9)
        refine hK.out _ _ kx9 (fun _ => ?_)
        clear hK K hS
        have hS := kx9
        clear kx9
        (try simp only [Act.put]); (try simp only [List.setIfInBounds_toArray]); (try simp only [List.set_cons_zero, List.set_cons_succ])
        refine wpAnyH_take (i := 11) (v := .agg #[.slice ao n cap, .slice none 0 0, .slice vo n vc, .slice (some ⟨g7, 0, none⟩) n n, .slice (some ⟨g10, 0, none⟩) n n, .slice none 0 0, .slice none 0 0]) rfl (by kernel_rfl) (by kernel_rfl) (by kernel_rfl) (fun _ _ _ h => h) (Or.inl ⟨by kernel_rfl, fun w' h => by go_simp⟩) hS ?_
        (try simp only [Act.put]); (try simp only [List.setIfInBounds_toArray]); (try simp only [List.set_cons_zero, List.set_cons_succ])
        have HF := hid (start14 b0 (below_step (below_step (below_step jx1 jx7) jx8) jx9) wx9 (ia := 1) (i7 := 0) (i10 := 2) (by decide) (by decide) (by decide) rfl rfl rfl (.slice ao n cap))
        refine wpAnyH_ready (rs := [12]) (by kernel_rfl) (by simp) (AllReadyH.cons rfl (fun K hK => ?_) AllReadyH.nil)
        go_simp
        obtain ⟨xe, hxe⟩ : ∃ X, X = x9.alloc (.cells #[.slice ao n cap, .slice none 0 0, .slice vo n vc, .slice (some ⟨g7, 0, none⟩) n n, .slice (some ⟨g10, 0, none⟩) n n, .slice none 0 0, .slice none 0 0] 38) := ⟨_, rfl⟩
        have ke : Kp w xe := hS.trans (by rw [hxe]; exact Kp.of_below (below_alloc _))
        rw [← hxe] at HF ⊢
        clear hxe
        refine hK.out _ _ ke (fun _ => ?_)
        clear hK K hS
        have hS := ke
        (try simp only [Act.put]); (try simp only [List.setIfInBounds_toArray]); (try simp only [List.set_cons_zero, List.set_cons_succ])
        generalize x9.heap.size = bb at HF ⊢
        refine wpAnyH_take (i := 13) (v := .pointer (some ⟨bb, 0, none⟩)) rfl (by kernel_rfl) (by kernel_rfl) (by kernel_rfl) (fun _ _ _ h => h) (Or.inl ⟨by kernel_rfl, fun w' h => by go_simp⟩) hS ?_
        (try simp only [Act.put]); (try simp only [List.setIfInBounds_toArray]); (try simp only [List.set_cons_zero, List.set_cons_succ])
        refine wpAnyH_done (by kernel_rfl) ?_ _
        (try simp only [List.append]); (try simp only [Act.put]); (try simp only [List.getElem_toArray]); (try simp only [List.getElem_cons_succ, List.getElem_cons_zero]); (try simp only [List.setIfInBounds_toArray]); (try simp only [List.set_cons_succ, List.set_cons_zero])
        go_wp2
        go_ret
        exact ⟨_, _, _, _, rfl, HF.out⟩
      · skip
        have hmk := run_make14 x7 n (by omega)
        go_simp
        have jx10 := below_alloc (w := x7) (.cells (zer14 n) 3)
        have o10 := ow_zero14 x7 n hn
        obtain ⟨x10, hx10⟩ : ∃ X, X = x7.alloc (.cells (zer14 n) 3) := ⟨_, rfl⟩
        rw [← hx10] at jx10 o10 ⊢
        have wx10 := wx7.snoc jx10 o10 ((below_step b0 (below_step jx1 jx7))).size
        obtain ⟨g10, hg10⟩ : ∃ X, X = x7.heap.size := ⟨_, rfl⟩
        rw [← hg10] at wx10 ⊢
        clear hx10 hg10 hmk o10
        have kx10 : Kp w x10 := hS.trans (Kp.of_below jx10)
        refine hK.out _ _ kx10 (fun _ => ?_)
        clear hK K hS
        have hS := kx10
        clear kx10
        (try simp only [Act.put]); (try simp only [List.setIfInBounds_toArray]); (try simp only [List.set_cons_zero, List.set_cons_succ])
        refine wpAnyH_ready (rs := [4]) (by kernel_rfl) (by simp) (AllReadyH.cons rfl (fun K hK => ?_) AllReadyH.nil)
        go_simp
        refine (repeat_any (lx.kp (Kp.of_below (below_step jx7 jx10))) hn).mono ?_
        rintro e x11 ⟨va, rfl, oa, jx11⟩
        obtain ⟨vo, vc, hva, _, _⟩ := oa.shape
        rw [List.length_replicate] at hva
        subst hva
        have wx11 := wx10.snoc jx11 oa ((below_step b0 (below_step (below_step jx1 jx7) jx10))).size
        have kx11 : Kp w x11 := hS.trans (Kp.of_below jx11)
        refine hK.out _ _ kx11 (fun _ => ?_)
        clear hK K hS
        have hS := kx11
        clear kx11
        (try simp only [Act.put]); (try simp only [List.setIfInBounds_toArray]); (try simp only [List.set_cons_zero, List.set_cons_succ])
        refine wpAnyH_take (i := 11) (v := .agg #[.slice ao n cap, .slice none 0 0, .slice vo n vc, .slice (some ⟨g7, 0, none⟩) n n, .slice (some ⟨g10, 0, none⟩) n n, .slice none 0 0, .slice none 0 0]) rfl (by kernel_rfl) (by kernel_rfl) (by kernel_rfl) (fun _ _ _ h => h) (Or.inl ⟨by kernel_rfl, fun w' h => by go_simp⟩) hS ?_
        (try simp only [Act.put]); (try simp only [List.setIfInBounds_toArray]); (try simp only [List.set_cons_zero, List.set_cons_succ])
        have HF := hid (start14 b0 (below_step (below_step (below_step jx1 jx7) jx10) jx11) wx11 (ia := 2) (i7 := 0) (i10 := 1) (by decide) (by decide) (by decide) rfl rfl rfl (.slice ao n cap))
        refine wpAnyH_ready (rs := [12]) (by kernel_rfl) (by simp) (AllReadyH.cons rfl (fun K hK => ?_) AllReadyH.nil)
        go_simp
        obtain ⟨xe, hxe⟩ : ∃ X, X = x11.alloc (.cells #[.slice ao n cap, .slice none 0 0, .slice vo n vc, .slice (some ⟨g7, 0, none⟩) n n, .slice (some ⟨g10, 0, none⟩) n n, .slice none 0 0, .slice none 0 0] 38) := ⟨_, rfl⟩
        have ke : Kp w xe := hS.trans (by rw [hxe]; exact Kp.of_below (below_alloc _))
        rw [← hxe] at HF ⊢
        clear hxe
        refine hK.out _ _ ke (fun _ => ?_)
        clear hK K hS
        have hS := ke
        (try simp only [Act.put]); (try simp only [List.setIfInBounds_toArray]); (try simp only [List.set_cons_zero, List.set_cons_succ])
        generalize x11.heap.size = bb at HF ⊢
        refine wpAnyH_take (i := 13) (v := .pointer (some ⟨bb, 0, none⟩)) rfl (by kernel_rfl) (by kernel_rfl) (by kernel_rfl) (fun _ _ _ h => h) (Or.inl ⟨by kernel_rfl, fun w' h => by go_simp⟩) hS ?_
        (try simp only [Act.put]); (try simp only [List.setIfInBounds_toArray]); (try simp only [List.set_cons_zero, List.set_cons_succ])
        refine wpAnyH_done (by kernel_rfl) ?_ _
        (try simp only [List.append]); (try simp only [Act.put]); (try simp only [List.getElem_toArray]); (try simp only [List.getElem_cons_succ, List.getElem_cons_zero]); (try simp only [List.setIfInBounds_toArray]); (try simp only [List.set_cons_succ, List.set_cons_zero])
        go_wp2
        go_ret
        exact ⟨_, _, _, _, rfl, HF.out⟩
    · skip
      have hmk := run_make14 x1 n (by omega)
      go_simp
      have jx12 := below_alloc (w := x1) (.cells (zer14 n) 3)
      have o10 := ow_zero14 x1 n hn
      obtain ⟨x12, hx12⟩ : ∃ X, X = x1.alloc (.cells (zer14 n) 3) := ⟨_, rfl⟩
      rw [← hx12] at jx12 o10 ⊢
      have wx12 := wx1.snoc jx12 o10 ((below_step b0 jx1)).size
      obtain ⟨g10, hg10⟩ : ∃ X, X = x1.heap.size := ⟨_, rfl⟩
      rw [← hg10] at wx12 ⊢
      clear hx12 hg10 hmk o10
      have kx12 : Kp w x12 := hS.trans (Kp.of_below jx12)
      refine hK.out _ _ kx12 (fun _ => ?_)
      clear hK K hS
      have hS := kx12
      clear kx12
      (try simp only [Act.put]); (try simp only [List.setIfInBounds_toArray]); (try simp only [List.set_cons_zero, List.set_cons_succ])
      refine wpAnyH_ready (rs := [4, 7]) (by kernel_rfl) (by simp) (AllReadyH.cons rfl (fun K hK => ?_) (AllReadyH.cons rfl (fun K hK => ?_) AllReadyH.nil))
      · skip
        go_simp
        refine (repeat_any (lx.kp (Kp.of_below jx12)) hn).mono ?_
        rintro e x13 ⟨va, rfl, oa, jx13⟩
        obtain ⟨vo, vc, hva, _, _⟩ := oa.shape
        rw [List.length_replicate] at hva
        subst hva
        have wx13 := wx12.snoc jx13 oa ((below_step b0 (below_step jx1 jx12))).size
        have kx13 : Kp w x13 := hS.trans (Kp.of_below jx13)
        refine hK.out _ _ kx13 (fun _ => ?_)
        clear hK K hS
        have hS := kx13
        clear kx13
        (try simp only [Act.put]); (try simp only [List.setIfInBounds_toArray]); (try simp only [List.set_cons_zero, List.set_cons_succ])
        refine wpAnyH_ready (rs := [7]) (by kernel_rfl) (by simp) (AllReadyH.cons rfl (fun K hK => ?_) AllReadyH.nil)
        have hmk := run_make14 x13 n (by omega)
        go_simp
        have jx14 := below_alloc (w := x13) (.cells (zer14 n) 3)
        have o7 := ow_zero14 x13 n hn
        obtain ⟨x14, hx14⟩ : ∃ X, X = x13.alloc (.cells (zer14 n) 3) := ⟨_, rfl⟩
        rw [← hx14] at jx14 o7 ⊢
        have wx14 := wx13.snoc jx14 o7 ((below_step b0 (below_step (below_step jx1 jx12) jx13))).size
        obtain ⟨g7, hg7⟩ : ∃ X, X = x13.heap.size := ⟨_, rfl⟩
        rw [← hg7] at wx14 ⊢
        clear hx14 hg7 hmk o7
        have kx14 : Kp w x14 := hS.trans (Kp.of_below jx14)
        refine hK.out _ _ kx14 (fun _ => ?_)
        clear hK K hS
        have hS := kx14
        clear kx14
        (try simp only [Act.put]); (try simp only [List.setIfInBounds_toArray]); (try simp only [List.set_cons_zero, List.set_cons_succ])
        refine wpAnyH_take (i := 11) (v := .agg #[.slice ao n cap, .slice none 0 0, .slice vo n vc, .slice (some ⟨g7, 0, none⟩) n n, .slice (some ⟨g10, 0, none⟩) n n, .slice none 0 0, .slice none 0 0]) rfl (by kernel_rfl) (by kernel_rfl) (by kernel_rfl) (fun _ _ _ h => h) (Or.inl ⟨by kernel_rfl, fun w' h => by go_simp⟩) hS ?_
        (try simp only [Act.put]); (try simp only [List.setIfInBounds_toArray]); (try simp only [List.set_cons_zero, List.set_cons_succ])
        have HF := hid (start14 b0 (below_step (below_step (below_step jx1 jx12) jx13) jx14) wx14 (ia := 1) (i7 := 2) (i10 := 0) (by decide) (by decide) (by decide) rfl rfl rfl (.slice ao n cap))
        refine wpAnyH_ready (rs := [12]) (by kernel_rfl) (by simp) (AllReadyH.cons rfl (fun K hK => ?_) AllReadyH.nil)
        go_simp
        obtain ⟨xe, hxe⟩ : ∃ X, X = x14.alloc (.cells #[.slice ao n cap, .slice none 0 0, .slice vo n vc, .slice (some ⟨g7, 0, none⟩) n n, .slice (some ⟨g10, 0, none⟩) n n, .slice none 0 0, .slice none 0 0] 38) := ⟨_, rfl⟩
        have ke : Kp w xe := hS.trans (by rw [hxe]; exact Kp.of_below (below_alloc _))
        rw [← hxe] at HF ⊢
        clear hxe
        refine hK.out _ _ ke (fun _ => ?_)
        clear hK K hS
        have hS := ke
        (try simp only [Act.put]); (try simp only [List.setIfInBounds_toArray]); (try simp only [List.set_cons_zero, List.set_cons_succ])
        generalize x14.heap.size = bb at HF ⊢
        refine wpAnyH_take (i := 13) (v := .pointer (some ⟨bb, 0, none⟩)) rfl (by kernel_rfl) (by kernel_rfl) (by kernel_rfl) (fun _ _ _ h => h) (Or.inl ⟨by kernel_rfl, fun w' h => by go_simp⟩) hS ?_
        (try simp only [Act.put]); (try simp only [List.setIfInBounds_toArray]); (try simp only [List.set_cons_zero, List.set_cons_succ])
        refine wpAnyH_done (by kernel_rfl) ?_ _
        (try simp only [List.append]); (try simp only [Act.put]); (try simp only [List.getElem_toArray]); (try simp only [List.getElem_cons_succ, List.getElem_cons_zero]); (try simp only [List.setIfInBounds_toArray]); (try simp only [List.set_cons_succ, List.set_cons_zero])
        go_wp2
        go_ret
        exact ⟨_, _, _, _, rfl, HF.out⟩
      · skip
        have hmk := run_make14 x12 n (by omega)
        go_simp
        have jx15 := below_alloc (w := x12) (.cells (zer14 n) 3)
        have o7 := ow_zero14 x12 n hn
        obtain ⟨x15, hx15⟩ : ∃ X, X = x12.alloc (.cells (zer14 n) 3) := ⟨_, rfl⟩
        rw [← hx15] at jx15 o7 ⊢
        have wx15 := wx12.snoc jx15 o7 ((below_step b0 (below_step jx1 jx12))).size
        obtain ⟨g7, hg7⟩ : ∃ X, X = x12.heap.size := ⟨_, rfl⟩
        rw [← hg7] at wx15 ⊢
        clear hx15 hg7 hmk o7
        have kx15 : Kp w x15 := hS.trans (Kp.of_below jx15)
        refine hK.out _ _ kx15 (fun _ => ?_)
        clear hK K hS
        have hS := kx15
        clear kx15
        (try simp only [Act.put]); (try simp only [List.setIfInBounds_toArray]); (try simp only [List.set_cons_zero, List.set_cons_succ])
        refine wpAnyH_ready (rs := [4]) (by kernel_rfl) (by simp) (AllReadyH.cons rfl (fun K hK => ?_) AllReadyH.nil)
        go_simp
        refine (repeat_any (lx.kp (Kp.of_below (below_step jx12 jx15))) hn).mono ?_
        rintro e x16 ⟨va, rfl, oa, jx16⟩
        obtain ⟨vo, vc, hva, _, _⟩ := oa.shape
        rw [List.length_replicate] at hva
        subst hva
        have wx16 := wx15.snoc jx16 oa ((below_step b0 (below_step (below_step jx1 jx12) jx15))).size
        have kx16 : Kp w x16 := hS.trans (Kp.of_below jx16)
        refine hK.out _ _ kx16 (fun _ => ?_)
        clear hK K hS
        have hS := kx16
        clear kx16
        (try simp only [Act.put]); (try simp only [List.setIfInBounds_toArray]); (try simp only [List.set_cons_zero, List.set_cons_succ])
        refine wpAnyH_take (i := 11) (v := .agg #[.slice ao n cap, .slice none 0 0, .slice vo n vc, .slice (some ⟨g7, 0, none⟩) n n, .slice (some ⟨g10, 0, none⟩) n n, .slice none 0 0, .slice none 0 0]) rfl (by kernel_rfl) (by kernel_rfl) (by kernel_rfl) (fun _ _ _ h => h) (Or.inl ⟨by kernel_rfl, fun w' h => by go_simp⟩) hS ?_
        (try simp only [Act.put]); (try simp only [List.setIfInBounds_toArray]); (try simp only [List.set_cons_zero, List.set_cons_succ])
        have HF := hid (start14 b0 (below_step (below_step (below_step jx1 jx12) jx15) jx16) wx16 (ia := 2) (i7 := 1) (i10 := 0) (by decide) (by decide) (by decide) rfl rfl rfl (.slice ao n cap))
        refine wpAnyH_ready (rs := [12]) (by kernel_rfl) (by simp) (AllReadyH.cons rfl (fun K hK => ?_) AllReadyH.nil)
        go_simp
        obtain ⟨xe, hxe⟩ : ∃ X, X = x16.alloc (.cells #[.slice ao n cap, .slice none 0 0, .slice vo n vc, .slice (some ⟨g7, 0, none⟩) n n, .slice (some ⟨g10, 0, none⟩) n n, .slice none 0 0, .slice none 0 0] 38) := ⟨_, rfl⟩
        have ke : Kp w xe := hS.trans (by rw [hxe]; exact Kp.of_below (below_alloc _))
        rw [← hxe] at HF ⊢
        clear hxe
        refine hK.out _ _ ke (fun _ => ?_)
        clear hK K hS
        have hS := ke
        (try simp only [Act.put]); (try simp only [List.setIfInBounds_toArray]); (try simp only [List.set_cons_zero, List.set_cons_succ])
        generalize x16.heap.size = bb at HF ⊢
        refine wpAnyH_take (i := 13) (v := .pointer (some ⟨bb, 0, none⟩)) rfl (by kernel_rfl) (by kernel_rfl) (by kernel_rfl) (fun _ _ _ h => h) (Or.inl ⟨by kernel_rfl, fun w' h => by go_simp⟩) hS ?_
        (try simp only [Act.put]); (try simp only [List.setIfInBounds_toArray]); (try simp only [List.set_cons_zero, List.set_cons_succ])
        refine wpAnyH_done (by kernel_rfl) ?_ _
        (try simp only [List.append]); (try simp only [Act.put]); (try simp only [List.getElem_toArray]); (try simp only [List.getElem_cons_succ, List.getElem_cons_zero]); (try simp only [List.setIfInBounds_toArray]); (try simp only [List.set_cons_succ, List.set_cons_zero])
        go_wp2
        go_ret
        exact ⟨_, _, _, _, rfl, HF.out⟩
  · skip
    have hmk := run_make14 x0 n (by omega)
    go_simp
    have jx17 := below_alloc (w := x0) (.cells (zer14 n) 3)
    have o7 := ow_zero14 x0 n hn
    obtain ⟨x17, hx17⟩ : ∃ X, X = x0.alloc (.cells (zer14 n) 3) := ⟨_, rfl⟩
    rw [← hx17] at jx17 o7 ⊢
    have wx17 := wx0.snoc jx17 o7 (b0).size
    obtain ⟨g7, hg7⟩ : ∃ X, X = x0.heap.size := ⟨_, rfl⟩
    rw [← hg7] at wx17 ⊢
    clear hx17 hg7 hmk o7
    have kx17 : Kp w x17 := hS.trans (Kp.of_below jx17)
    refine hK.out _ _ kx17 (fun _ => ?_)
    clear hK K hS
    have hS := kx17
    clear kx17
    (try simp only [Act.put]); (try simp only [List.setIfInBounds_toArray]); (try simp only [List.set_cons_zero, List.set_cons_succ])
    refine wpAnyH_ready (rs := [1, 10]) (by kernel_rfl) (by simp) (AllReadyH.cons rfl (fun K hK => ?_) (AllReadyH.cons rfl (fun K hK => ?_) AllReadyH.nil))
    · skip
      go_simp
      have jx18 := below_alloc (w := x17) (.cells #[.int .i64 (-1)] 3)
      have lx := is_new x17 [-1] 3 (by decide) (by decide)
      change Is (x17.alloc (.cells #[.int .i64 (-1)] 3)) (.slice (some ⟨x17.heap.size, 0, none⟩) 1 1) _ at lx
      obtain ⟨gx, hgx⟩ : ∃ X, X = x17.heap.size := ⟨_, rfl⟩
      obtain ⟨x18, hx18⟩ : ∃ X, X = x17.alloc (.cells #[.int .i64 (-1)] 3) := ⟨_, rfl⟩
      have wx18 := wx17.later jx18
      rw [← hx18] at jx18 wx18 lx ⊢
      rw [← hgx] at lx ⊢
      clear hx18 hgx
      have kx18 : Kp w x18 := hS.trans (Kp.of_below jx18)
      refine hK.out _ _ kx18 (fun _ => ?_)
      clear hK K hS
      have hS := kx18
      clear kx18
      (try simp only [Act.put]); (try simp only [List.setIfInBounds_toArray]); (try simp only [List.set_cons_zero, List.set_cons_succ])
      refine wpAnyH_ready (rs := [4, 10]) (by kernel_rfl) (by simp) (AllReadyH.cons rfl (fun K hK => ?_) (AllReadyH.cons rfl (fun K hK => ?_) AllReadyH.nil))
      · skip
        go_simp
        refine (repeat_any lx hn).mono ?_
        rintro e x19 ⟨va, rfl, oa, jx19⟩
        obtain ⟨vo, vc, hva, _, _⟩ := oa.shape
        rw [List.length_replicate] at hva
        subst hva
        have wx19 := wx18.snoc jx19 oa ((below_step b0 (below_step jx17 jx18))).size
        have kx19 : Kp w x19 := hS.trans (Kp.of_below jx19)
        refine hK.out _ _ kx19 (fun _ => ?_)
        clear hK K hS
        have hS := kx19
        clear kx19
        (try simp only [Act.put]); (try simp only [List.setIfInBounds_toArray]); (try simp only [List.set_cons_zero, List.set_cons_succ])
        refine wpAnyH_ready (rs := [10]) (by kernel_rfl) (by simp) (AllReadyH.cons rfl (fun K hK => ?_) AllReadyH.nil)
        have hmk := run_make14 x19 n (by omega)
        go_simp
        have jx20 := below_alloc (w := x19) (.cells (zer14 n) 3)
        have o10 := ow_zero14 x19 n hn
        obtain ⟨x20, hx20⟩ : ∃ X, X = x19.alloc (.cells (zer14 n) 3) := ⟨_, rfl⟩
        rw [← hx20] at jx20 o10 ⊢
        have wx20 := wx19.snoc jx20 o10 ((below_step b0 (below_step (below_step jx17 jx18) jx19))).size
        obtain ⟨g10, hg10⟩ : ∃ X, X = x19.heap.size := ⟨_, rfl⟩
        rw [← hg10] at wx20 ⊢
        clear hx20 hg10 hmk o10
        have kx20 : Kp w x20 := hS.trans (Kp.of_below jx20)
        refine hK.out _ _ kx20 (fun _ => ?_)
        clear hK K hS
        have hS := kx20
        clear kx20
        (try simp only [Act.put]); (try simp only [List.setIfInBounds_toArray]); (try simp only [List.set_cons_zero, List.set_cons_succ])
        refine wpAnyH_take (i := 11) (v := .agg #[.slice ao n cap, .slice none 0 0, .slice vo n vc, .slice (some ⟨g7, 0, none⟩) n n, .slice (some ⟨g10, 0, none⟩) n n, .slice none 0 0, .slice none 0 0]) rfl (by kernel_rfl) (by kernel_rfl) (by kernel_rfl) (fun _ _ _ h => h) (Or.inl ⟨by kernel_rfl, fun w' h => by go_simp⟩) hS ?_
        (try simp only [Act.put]); (try simp only [List.setIfInBounds_toArray]); (try simp only [List.set_cons_zero, List.set_cons_succ])
        have HF := hid (start14 b0 (below_step (below_step (below_step jx17 jx18) jx19) jx20) wx20 (ia := 1) (i7 := 0) (i10 := 2) (by decide) (by decide) (by decide) rfl rfl rfl (.slice ao n cap))
        refine wpAnyH_ready (rs := [12]) (by kernel_rfl) (by simp) (AllReadyH.cons rfl (fun K hK => ?_) AllReadyH.nil)
        go_simp
        obtain ⟨xe, hxe⟩ : ∃ X, X = x20.alloc (.cells #[.slice ao n cap, .slice none 0 0, .slice vo n vc, .slice (some ⟨g7, 0, none⟩) n n, .slice (some ⟨g10, 0, none⟩) n n, .slice none 0 0, .slice none 0 0] 38) := ⟨_, rfl⟩
        have ke : Kp w xe := hS.trans (by rw [hxe]; exact Kp.of_below (below_alloc _))
        rw [← hxe] at HF ⊢
        clear hxe
        refine hK.out _ _ ke (fun _ => ?_)
        clear hK K hS
        have hS := ke
        (try simp only [Act.put]); (try simp only [List.setIfInBounds_toArray]); (try simp only [List.set_cons_zero, List.set_cons_succ])
        generalize x20.heap.size = bb at HF ⊢
        refine wpAnyH_take (i := 13) (v := .pointer (some ⟨bb, 0, none⟩)) rfl (by kernel_rfl) (by kernel_rfl) (by kernel_rfl) (fun _ _ _ h => h) (Or.inl ⟨by kernel_rfl, fun w' h => by go_simp⟩) hS ?_
        (try simp only [Act.put]); (try simp only [List.setIfInBounds_toArray]); (try simp only [List.set_cons_zero, List.set_cons_succ])
        refine wpAnyH_done (by kernel_rfl) ?_ _
        (try simp only [List.append]); (try simp only [Act.put]); (try simp only [List.getElem_toArray]); (try simp only [List.getElem_cons_succ, List.getElem_cons_zero]); (try simp only [List.setIfInBounds_toArray]); (try simp only [List.set_cons_succ, List.set_cons_zero])
        go_wp2
        go_ret
        exact ⟨_, _, _, _, rfl, HF.out⟩
      · skip
        have hmk := run_make14 x18 n (by omega)
        go_simp
        have jx21 := below_alloc (w := x18) (.cells (zer14 n) 3)
        have o10 := ow_zero14 x18 n hn
        obtain ⟨x21, hx21⟩ : ∃ X, X = x18.alloc (.cells (zer14 n) 3) := ⟨_, rfl⟩
        rw [← hx21] at jx21 o10 ⊢
        have wx21 := wx18.snoc jx21 o10 ((below_step b0 (below_step jx17 jx18))).size
        obtain ⟨g10, hg10⟩ : ∃ X, X = x18.heap.size := ⟨_, rfl⟩
        rw [← hg10] at wx21 ⊢
        clear hx21 hg10 hmk o10
        have kx21 : Kp w x21 := hS.trans (Kp.of_below jx21)
        refine hK.out _ _ kx21 (fun _ => ?_)
        clear hK K hS
        have hS := kx21
        clear kx21
        (try simp only [Act.put]); (try simp only [List.setIfInBounds_toArray]); (try simp only [List.set_cons_zero, List.set_cons_succ])
        refine wpAnyH_ready (rs := [4]) (by kernel_rfl) (by simp) (AllReadyH.cons rfl (fun K hK => ?_) AllReadyH.nil)
        go_simp
        refine (repeat_any (lx.kp (Kp.of_below jx21)) hn).mono ?_
        rintro e x22 ⟨va, rfl, oa, jx22⟩
        obtain ⟨vo, vc, hva, _, _⟩ := oa.shape
        rw [List.length_replicate] at hva
        subst hva
        have wx22 := wx21.snoc jx22 oa ((below_step b0 (below_step (below_step jx17 jx18) jx21))).size
        have kx22 : Kp w x22 := hS.trans (Kp.of_below jx22)
        refine hK.out _ _ kx22 (fun _ => ?_)
        clear hK K hS
        have hS := kx22
        clear kx22
        (try simp only [Act.put]); (try simp only [List.setIfInBounds_toArray]); (try simp only [List.set_cons_zero, List.set_cons_succ])
        refine wpAnyH_take (i := 11) (v := .agg #[.slice ao n cap, .slice none 0 0, .slice vo n vc, .slice (some ⟨g7, 0, none⟩) n n, .slice (some ⟨g10, 0, none⟩) n n, .slice none 0 0, .slice none 0 0]) rfl (by kernel_rfl) (by kernel_rfl) (by kernel_rfl) (fun _ _ _ h => h) (Or.inl ⟨by kernel_rfl, fun w' h => by go_simp⟩) hS ?_
        (try simp only [Act.put]); (try simp only [List.setIfInBounds_toArray]); (try simp only [List.set_cons_zero, List.set_cons_succ])
        have HF := hid (start14 b0 (below_step (below_step (below_step jx17 jx18) jx21) jx22) wx22 (ia := 2) (i7 := 0) (i10 := 1) (by decide) (by decide) (by decide) rfl rfl rfl (.slice ao n cap))
        refine wpAnyH_ready (rs := [12]) (by kernel_rfl) (by simp) (AllReadyH.cons rfl (fun K hK => ?_) AllReadyH.nil)
        go_simp
        obtain ⟨xe, hxe⟩ : ∃ X, X = x22.alloc (.cells #[.slice ao n cap, .slice none 0 0, .slice vo n vc, .slice (some ⟨g7, 0, none⟩) n n, .slice (some ⟨g10, 0, none⟩) n n, .slice none 0 0, .slice none 0 0] 38) := ⟨_, rfl⟩
        have ke : Kp w xe := hS.trans (by rw [hxe]; exact Kp.of_below (below_alloc _))
        rw [← hxe] at HF ⊢
        clear hxe
        refine hK.out _ _ ke (fun _ => ?_)
        clear hK K hS
        have hS := ke
        (try simp only [Act.put]); (try simp only [List.setIfInBounds_toArray]); (try simp only [List.set_cons_zero, List.set_cons_succ])
        generalize x22.heap.size = bb at HF ⊢
        refine wpAnyH_take (i := 13) (v := .pointer (some ⟨bb, 0, none⟩)) rfl (by kernel_rfl) (by kernel_rfl) (by kernel_rfl) (fun _ _ _ h => h) (Or.inl ⟨by kernel_rfl, fun w' h => by go_simp⟩) hS ?_
        (try simp only [Act.put]); (try simp only [List.setIfInBounds_toArray]); (try simp only [List.set_cons_zero, List.set_cons_succ])
        refine wpAnyH_done (by kernel_rfl) ?_ _
        (try simp only [List.append]); (try simp only [Act.put]); (try simp only [List.getElem_toArray]); (try simp only [List.getElem_cons_succ, List.getElem_cons_zero]); (try simp only [List.setIfInBounds_toArray]); (try simp only [List.set_cons_succ, List.set_cons_zero])
        go_wp2
        go_ret
        exact ⟨_, _, _, _, rfl, HF.out⟩
    · skip
      have hmk := run_make14 x17 n (by omega)
      go_simp
      have jx23 := below_alloc (w := x17) (.cells (zer14 n) 3)
      have o10 := ow_zero14 x17 n hn
      obtain ⟨x23, hx23⟩ : ∃ X, X = x17.alloc (.cells (zer14 n) 3) := ⟨_, rfl⟩
      rw [← hx23] at jx23 o10 ⊢
      have wx23 := wx17.snoc jx23 o10 ((below_step b0 jx17)).size
      obtain ⟨g10, hg10⟩ : ∃ X, X = x17.heap.size := ⟨_, rfl⟩
      rw [← hg10] at wx23 ⊢
      clear hx23 hg10 hmk o10
      have kx23 : Kp w x23 := hS.trans (Kp.of_below jx23)
      refine hK.out _ _ kx23 (fun _ => ?_)
      clear hK K hS
      have hS := kx23
      clear kx23
      (try simp only [Act.put]); (try simp only [List.setIfInBounds_toArray]); (try simp only [List.set_cons_zero, List.set_cons_succ])
      refine wpAnyH_ready (rs := [1]) (by kernel_rfl) (by simp) (AllReadyH.cons rfl (fun K hK => ?_) AllReadyH.nil)
      go_simp
      have jx24 := below_alloc (w := x23) (.cells #[.int .i64 (-1)] 3)
      have lx := is_new x23 [-1] 3 (by decide) (by decide)
      change Is (x23.alloc (.cells #[.int .i64 (-1)] 3)) (.slice (some ⟨x23.heap.size, 0, none⟩) 1 1) _ at lx
      obtain ⟨gx, hgx⟩ : ∃ X, X = x23.heap.size := ⟨_, rfl⟩
      obtain ⟨x24, hx24⟩ : ∃ X, X = x23.alloc (.cells #[.int .i64 (-1)] 3) := ⟨_, rfl⟩
      have wx24 := wx23.later jx24
      rw [← hx24] at jx24 wx24 lx ⊢
      rw [← hgx] at lx ⊢
      clear hx24 hgx
      have kx24 : Kp w x24 := hS.trans (Kp.of_below jx24)
      refine hK.out _ _ kx24 (fun _ => ?_)
      clear hK K hS
      have hS := kx24
      clear kx24
      (try simp only [Act.put]); (try simp only [List.setIfInBounds_toArray]); (try simp only [List.set_cons_zero, List.set_cons_succ])
      refine wpAnyH_ready (rs := [4]) (by kernel_rfl) (by simp) (AllReadyH.cons rfl (fun K hK => ?_) AllReadyH.nil)
      go_simp
      refine (repeat_any lx hn).mono ?_
      rintro e x25 ⟨va, rfl, oa, jx25⟩
      obtain ⟨vo, vc, hva, _, _⟩ := oa.shape
      rw [List.length_replicate] at hva
      subst hva
      have wx25 := wx24.snoc jx25 oa ((below_step b0 (below_step (below_step jx17 jx23) jx24))).size
      have kx25 : Kp w x25 := hS.trans (Kp.of_below jx25)
      refine hK.out _ _ kx25 (fun _ => ?_)
      clear hK K hS
      have hS := kx25
      clear kx25
      (try simp only [Act.put]); (try simp only [List.setIfInBounds_toArray]); (try simp only [List.set_cons_zero, List.set_cons_succ])
      refine wpAnyH_take (i := 11) (v := .agg #[.slice ao n cap, .slice none 0 0, .slice vo n vc, .slice (some ⟨g7, 0, none⟩) n n, .slice (some ⟨g10, 0, none⟩) n n, .slice none 0 0, .slice none 0 0]) rfl (by kernel_rfl) (by kernel_rfl) (by kernel_rfl) (fun _ _ _ h => h) (Or.inl ⟨by kernel_rfl, fun w' h => by go_simp⟩) hS ?_
      (try simp only [Act.put]); (try simp only [List.setIfInBounds_toArray]); (try simp only [List.set_cons_zero, List.set_cons_succ])
      have HF := hid (start14 b0 (below_step (below_step (below_step jx17 jx23) jx24) jx25) wx25 (ia := 2) (i7 := 0) (i10 := 1) (by decide) (by decide) (by decide) rfl rfl rfl (.slice ao n cap))
      refine wpAnyH_ready (rs := [12]) (by kernel_rfl) (by simp) (AllReadyH.cons rfl (fun K hK => ?_) AllReadyH.nil)
      go_simp
      obtain ⟨xe, hxe⟩ : ∃ X, X = x25.alloc (.cells #[.slice ao n cap, .slice none 0 0, .slice vo n vc, .slice (some ⟨g7, 0, none⟩) n n, .slice (some ⟨g10, 0, none⟩) n n, .slice none 0 0, .slice none 0 0] 38) := ⟨_, rfl⟩
      have ke : Kp w xe := hS.trans (by rw [hxe]; exact Kp.of_below (below_alloc _))
      rw [← hxe] at HF ⊢
      clear hxe
      refine hK.out _ _ ke (fun _ => ?_)
      clear hK K hS
      have hS := ke
      (try simp only [Act.put]); (try simp only [List.setIfInBounds_toArray]); (try simp only [List.set_cons_zero, List.set_cons_succ])
      generalize x25.heap.size = bb at HF ⊢
      refine wpAnyH_take (i := 13) (v := .pointer (some ⟨bb, 0, none⟩)) rfl (by kernel_rfl) (by kernel_rfl) (by kernel_rfl) (fun _ _ _ h => h) (Or.inl ⟨by kernel_rfl, fun w' h => by go_simp⟩) hS ?_
      (try simp only [Act.put]); (try simp only [List.setIfInBounds_toArray]); (try simp only [List.set_cons_zero, List.set_cons_succ])
      refine wpAnyH_done (by kernel_rfl) ?_ _
      (try simp only [List.append]); (try simp only [Act.put]); (try simp only [List.getElem_toArray]); (try simp only [List.getElem_cons_succ, List.getElem_cons_zero]); (try simp only [List.setIfInBounds_toArray]); (try simp only [List.set_cons_succ, List.set_cons_zero])
      go_wp2
      go_ret
      exact ⟨_, _, _, _, rfl, HF.out⟩
  · skip
    have hmk := run_make14 x0 n (by omega)
    go_simp
    have jx26 := below_alloc (w := x0) (.cells (zer14 n) 3)
    have o10 := ow_zero14 x0 n hn
    obtain ⟨x26, hx26⟩ : ∃ X, X = x0.alloc (.cells (zer14 n) 3) := ⟨_, rfl⟩
    rw [← hx26] at jx26 o10 ⊢
    have wx26 := wx0.snoc jx26 o10 (b0).size
    obtain ⟨g10, hg10⟩ : ∃ X, X = x0.heap.size := ⟨_, rfl⟩
    rw [← hg10] at wx26 ⊢
    clear hx26 hg10 hmk o10
    have kx26 : Kp w x26 := hS.trans (Kp.of_below jx26)
    refine hK.out _ _ kx26 (fun _ => ?_)
    clear hK K hS
    have hS := kx26
    clear kx26
    (try simp only [Act.put]); (try simp only [List.setIfInBounds_toArray]); (try simp only [List.set_cons_zero, List.set_cons_succ])
    refine wpAnyH_ready (rs := [1, 7]) (by kernel_rfl) (by simp) (AllReadyH.cons rfl (fun K hK => ?_) (AllReadyH.cons rfl (fun K hK => ?_) AllReadyH.nil))
    · skip
      go_simp
      have jx27 := below_alloc (w := x26) (.cells #[.int .i64 (-1)] 3)
      have lx := is_new x26 [-1] 3 (by decide) (by decide)
      change Is (x26.alloc (.cells #[.int .i64 (-1)] 3)) (.slice (some ⟨x26.heap.size, 0, none⟩) 1 1) _ at lx
      obtain ⟨gx, hgx⟩ : ∃ X, X = x26.heap.size := ⟨_, rfl⟩
      obtain ⟨x27, hx27⟩ : ∃ X, X = x26.alloc (.cells #[.int .i64 (-1)] 3) := ⟨_, rfl⟩
      have wx27 := wx26.later jx27
      rw [← hx27] at jx27 wx27 lx ⊢
      rw [← hgx] at lx ⊢
      clear hx27 hgx
      have kx27 : Kp w x27 := hS.trans (Kp.of_below jx27)
      refine hK.out _ _ kx27 (fun _ => ?_)
      clear hK K hS
      have hS := kx27
      clear kx27
      (try simp only [Act.put]); (try simp only [List.setIfInBounds_toArray]); (try simp only [List.set_cons_zero, List.set_cons_succ])
      refine wpAnyH_ready (rs := [4, 7]) (by kernel_rfl) (by simp) (AllReadyH.cons rfl (fun K hK => ?_) (AllReadyH.cons rfl (fun K hK => ?_) AllReadyH.nil))
      · skip
        go_simp
        refine (repeat_any lx hn).mono ?_
        rintro e x28 ⟨va, rfl, oa, jx28⟩
        obtain ⟨vo, vc, hva, _, _⟩ := oa.shape
        rw [List.length_replicate] at hva
        subst hva
        have wx28 := wx27.snoc jx28 oa ((below_step b0 (below_step jx26 jx27))).size
        have kx28 : Kp w x28 := hS.trans (Kp.of_below jx28)
        refine hK.out _ _ kx28 (fun _ => ?_)
        clear hK K hS
        have hS := kx28
        clear kx28
        (try simp only [Act.put]); (try simp only [List.setIfInBounds_toArray]); (try simp only [List.set_cons_zero, List.set_cons_succ])
        refine wpAnyH_ready (rs := [7]) (by kernel_rfl) (by simp) (AllReadyH.cons rfl (fun K hK => ?_) AllReadyH.nil)
        have hmk := run_make14 x28 n (by omega)
        go_simp
        have jx29 := below_alloc (w := x28) (.cells (zer14 n) 3)
        have o7 := ow_zero14 x28 n hn
        obtain ⟨x29, hx29⟩ : ∃ X, X = x28.alloc (.cells (zer14 n) 3) := ⟨_, rfl⟩
        rw [← hx29] at jx29 o7 ⊢
        have wx29 := wx28.snoc jx29 o7 ((below_step b0 (below_step (below_step jx26 jx27) jx28))).size
        obtain ⟨g7, hg7⟩ : ∃ X, X = x28.heap.size := ⟨_, rfl⟩
        rw [← hg7] at wx29 ⊢
        clear hx29 hg7 hmk o7
        have kx29 : Kp w x29 := hS.trans (Kp.of_below jx29)
        refine hK.out _ _ kx29 (fun _ => ?_)
        clear hK K hS
        have hS := kx29
        clear kx29
        (try simp only [Act.put]); (try simp only [List.setIfInBounds_toArray]); (try simp only [List.set_cons_zero, List.set_cons_succ])
        refine wpAnyH_take (i := 11) (v := .agg #[.slice ao n cap, .slice none 0 0, .slice vo n vc, .slice (some ⟨g7, 0, none⟩) n n, .slice (some ⟨g10, 0, none⟩) n n, .slice none 0 0, .slice none 0 0]) rfl (by kernel_rfl) (by kernel_rfl) (by kernel_rfl) (fun _ _ _ h => h) (Or.inl ⟨by kernel_rfl, fun w' h => by go_simp⟩) hS ?_
        (try simp only [Act.put]); (try simp only [List.setIfInBounds_toArray]); (try simp only [List.set_cons_zero, List.set_cons_succ])
        have HF := hid (start14 b0 (below_step (below_step (below_step jx26 jx27) jx28) jx29) wx29 (ia := 1) (i7 := 2) (i10 := 0) (by decide) (by decide) (by decide) rfl rfl rfl (.slice ao n cap))
        refine wpAnyH_ready (rs := [12]) (by kernel_rfl) (by simp) (AllReadyH.cons rfl (fun K hK => ?_) AllReadyH.nil)
        go_simp
        obtain ⟨xe, hxe⟩ : ∃ X, X = x29.alloc (.cells #[.slice ao n cap, .slice none 0 0, .slice vo n vc, .slice (some ⟨g7, 0, none⟩) n n, .slice (some ⟨g10, 0, none⟩) n n, .slice none 0 0, .slice none 0 0] 38) := ⟨_, rfl⟩
        have ke : Kp w xe := hS.trans (by rw [hxe]; exact Kp.of_below (below_alloc _))
        rw [← hxe] at HF ⊢
        clear hxe
        refine hK.out _ _ ke (fun _ => ?_)
        clear hK K hS
        have hS := ke
        (try simp only [Act.put]); (try simp only [List.setIfInBounds_toArray]); (try simp only [List.set_cons_zero, List.set_cons_succ])
        generalize x29.heap.size = bb at HF ⊢
        refine wpAnyH_take (i := 13) (v := .pointer (some ⟨bb, 0, none⟩)) rfl (by kernel_rfl) (by kernel_rfl) (by kernel_rfl) (fun _ _ _ h => h) (Or.inl ⟨by kernel_rfl, fun w' h => by go_simp⟩) hS ?_
        (try simp only [Act.put]); (try simp only [List.setIfInBounds_toArray]); (try simp only [List.set_cons_zero, List.set_cons_succ])
        refine wpAnyH_done (by kernel_rfl) ?_ _
        (try simp only [List.append]); (try simp only [Act.put]); (try simp only [List.getElem_toArray]); (try simp only [List.getElem_cons_succ, List.getElem_cons_zero]); (try simp only [List.setIfInBounds_toArray]); (try simp only [List.set_cons_succ, List.set_cons_zero])
        go_wp2
        go_ret
        exact ⟨_, _, _, _, rfl, HF.out⟩
      · skip
        have hmk := run_make14 x27 n (by omega)
        go_simp
        have jx30 := below_alloc (w := x27) (.cells (zer14 n) 3)
        have o7 := ow_zero14 x27 n hn
        obtain ⟨x30, hx30⟩ : ∃ X, X = x27.alloc (.cells (zer14 n) 3) := ⟨_, rfl⟩
        rw [← hx30] at jx30 o7 ⊢
        have wx30 := wx27.snoc jx30 o7 ((below_step b0 (below_step jx26 jx27))).size
        obtain ⟨g7, hg7⟩ : ∃ X, X = x27.heap.size := ⟨_, rfl⟩
        rw [← hg7] at wx30 ⊢
        clear hx30 hg7 hmk o7
        have kx30 : Kp w x30 := hS.trans (Kp.of_below jx30)
        refine hK.out _ _ kx30 (fun _ => ?_)
        clear hK K hS
        have hS := kx30
        clear kx30
        (try simp only [Act.put]); (try simp only [List.setIfInBounds_toArray]); (try simp only [List.set_cons_zero, List.set_cons_succ])
        refine wpAnyH_ready (rs := [4]) (by kernel_rfl) (by simp) (AllReadyH.cons rfl (fun K hK => ?_) AllReadyH.nil)
        go_simp
        refine (repeat_any (lx.kp (Kp.of_below jx30)) hn).mono ?_
        rintro e x31 ⟨va, rfl, oa, jx31⟩
        obtain ⟨vo, vc, hva, _, _⟩ := oa.shape
        rw [List.length_replicate] at hva
        subst hva
        have wx31 := wx30.snoc jx31 oa ((below_step b0 (below_step (below_step jx26 jx27) jx30))).size
        have kx31 : Kp w x31 := hS.trans (Kp.of_below jx31)
        refine hK.out _ _ kx31 (fun _ => ?_)
        clear hK K hS
        have hS := kx31
        clear kx31
        (try simp only [Act.put]); (try simp only [List.setIfInBounds_toArray]); (try simp only [List.set_cons_zero, List.set_cons_succ])
        refine wpAnyH_take (i := 11) (v := .agg #[.slice ao n cap, .slice none 0 0, .slice vo n vc, .slice (some ⟨g7, 0, none⟩) n n, .slice (some ⟨g10, 0, none⟩) n n, .slice none 0 0, .slice none 0 0]) rfl (by kernel_rfl) (by kernel_rfl) (by kernel_rfl) (fun _ _ _ h => h) (Or.inl ⟨by kernel_rfl, fun w' h => by go_simp⟩) hS ?_
        (try simp only [Act.put]); (try simp only [List.setIfInBounds_toArray]); (try simp only [List.set_cons_zero, List.set_cons_succ])
        have HF := hid (start14 b0 (below_step (below_step (below_step jx26 jx27) jx30) jx31) wx31 (ia := 2) (i7 := 1) (i10 := 0) (by decide) (by decide) (by decide) rfl rfl rfl (.slice ao n cap))
        refine wpAnyH_ready (rs := [12]) (by kernel_rfl) (by simp) (AllReadyH.cons rfl (fun K hK => ?_) AllReadyH.nil)
        go_simp
        obtain ⟨xe, hxe⟩ : ∃ X, X = x31.alloc (.cells #[.slice ao n cap, .slice none 0 0, .slice vo n vc, .slice (some ⟨g7, 0, none⟩) n n, .slice (some ⟨g10, 0, none⟩) n n, .slice none 0 0, .slice none 0 0] 38) := ⟨_, rfl⟩
        have ke : Kp w xe := hS.trans (by rw [hxe]; exact Kp.of_below (below_alloc _))
        rw [← hxe] at HF ⊢
        clear hxe
        refine hK.out _ _ ke (fun _ => ?_)
        clear hK K hS
        have hS := ke
        (try simp only [Act.put]); (try simp only [List.setIfInBounds_toArray]); (try simp only [List.set_cons_zero, List.set_cons_succ])
        generalize x31.heap.size = bb at HF ⊢
        refine wpAnyH_take (i := 13) (v := .pointer (some ⟨bb, 0, none⟩)) rfl (by kernel_rfl) (by kernel_rfl) (by kernel_rfl) (fun _ _ _ h => h) (Or.inl ⟨by kernel_rfl, fun w' h => by go_simp⟩) hS ?_
        (try simp only [Act.put]); (try simp only [List.setIfInBounds_toArray]); (try simp only [List.set_cons_zero, List.set_cons_succ])
        refine wpAnyH_done (by kernel_rfl) ?_ _
        (try simp only [List.append]); (try simp only [Act.put]); (try simp only [List.getElem_toArray]); (try simp only [List.getElem_cons_succ, List.getElem_cons_zero]); (try simp only [List.setIfInBounds_toArray]); (try simp only [List.set_cons_succ, List.set_cons_zero])
        go_wp2
        go_ret
        exact ⟨_, _, _, _, rfl, HF.out⟩
    · skip
      have hmk := run_make14 x26 n (by omega)
      go_simp
      have jx32 := below_alloc (w := x26) (.cells (zer14 n) 3)
      have o7 := ow_zero14 x26 n hn
      obtain ⟨x32, hx32⟩ : ∃ X, X = x26.alloc (.cells (zer14 n) 3) := ⟨_, rfl⟩
      rw [← hx32] at jx32 o7 ⊢
      have wx32 := wx26.snoc jx32 o7 ((below_step b0 jx26)).size
      obtain ⟨g7, hg7⟩ : ∃ X, X = x26.heap.size := ⟨_, rfl⟩
      rw [← hg7] at wx32 ⊢
      clear hx32 hg7 hmk o7
      have kx32 : Kp w x32 := hS.trans (Kp.of_below jx32)
      refine hK.out _ _ kx32 (fun _ => ?_)
      clear hK K hS
      have hS := kx32
      clear kx32
      (try simp only [Act.put]); (try simp only [List.setIfInBounds_toArray]); (try simp only [List.set_cons_zero, List.set_cons_succ])
      refine wpAnyH_ready (rs := [1]) (by kernel_rfl) (by simp) (AllReadyH.cons rfl (fun K hK => ?_) AllReadyH.nil)
      go_simp
      have jx33 := below_alloc (w := x32) (.cells #[.int .i64 (-1)] 3)
      have lx := is_new x32 [-1] 3 (by decide) (by decide)
      change Is (x32.alloc (.cells #[.int .i64 (-1)] 3)) (.slice (some ⟨x32.heap.size, 0, none⟩) 1 1) _ at lx
      obtain ⟨gx, hgx⟩ : ∃ X, X = x32.heap.size := ⟨_, rfl⟩
      obtain ⟨x33, hx33⟩ : ∃ X, X = x32.alloc (.cells #[.int .i64 (-1)] 3) := ⟨_, rfl⟩
      have wx33 := wx32.later jx33
      rw [← hx33] at jx33 wx33 lx ⊢
      rw [← hgx] at lx ⊢
      clear hx33 hgx
      have kx33 : Kp w x33 := hS.trans (Kp.of_below jx33)
      refine hK.out _ _ kx33 (fun _ => ?_)
      clear hK K hS
      have hS := kx33
      clear kx33
      (try simp only [Act.put]); (try simp only [List.setIfInBounds_toArray]); (try simp only [List.set_cons_zero, List.set_cons_succ])
      refine wpAnyH_ready (rs := [4]) (by kernel_rfl) (by simp) (AllReadyH.cons rfl (fun K hK => ?_) AllReadyH.nil)
      go_simp
      refine (repeat_any lx hn).mono ?_
      rintro e x34 ⟨va, rfl, oa, jx34⟩
      obtain ⟨vo, vc, hva, _, _⟩ := oa.shape
      rw [List.length_replicate] at hva
      subst hva
      have wx34 := wx33.snoc jx34 oa ((below_step b0 (below_step (below_step jx26 jx32) jx33))).size
      have kx34 : Kp w x34 := hS.trans (Kp.of_below jx34)
      refine hK.out _ _ kx34 (fun _ => ?_)
      clear hK K hS
      have hS := kx34
      clear kx34
      (try simp only [Act.put]); (try simp only [List.setIfInBounds_toArray]); (try simp only [List.set_cons_zero, List.set_cons_succ])
      refine wpAnyH_take (i := 11) (v := .agg #[.slice ao n cap, .slice none 0 0, .slice vo n vc, .slice (some ⟨g7, 0, none⟩) n n, .slice (some ⟨g10, 0, none⟩) n n, .slice none 0 0, .slice none 0 0]) rfl (by kernel_rfl) (by kernel_rfl) (by kernel_rfl) (fun _ _ _ h => h) (Or.inl ⟨by kernel_rfl, fun w' h => by go_simp⟩) hS ?_
      (try simp only [Act.put]); (try simp only [List.setIfInBounds_toArray]); (try simp only [List.set_cons_zero, List.set_cons_succ])
      have HF := hid (start14 b0 (below_step (below_step (below_step jx26 jx32) jx33) jx34) wx34 (ia := 2) (i7 := 1) (i10 := 0) (by decide) (by decide) (by decide) rfl rfl rfl (.slice ao n cap))
      refine wpAnyH_ready (rs := [12]) (by kernel_rfl) (by simp) (AllReadyH.cons rfl (fun K hK => ?_) AllReadyH.nil)
      go_simp
      obtain ⟨xe, hxe⟩ : ∃ X, X = x34.alloc (.cells #[.slice ao n cap, .slice none 0 0, .slice vo n vc, .slice (some ⟨g7, 0, none⟩) n n, .slice (some ⟨g10, 0, none⟩) n n, .slice none 0 0, .slice none 0 0] 38) := ⟨_, rfl⟩
      have ke : Kp w xe := hS.trans (by rw [hxe]; exact Kp.of_below (below_alloc _))
      rw [← hxe] at HF ⊢
      clear hxe
      refine hK.out _ _ ke (fun _ => ?_)
      clear hK K hS
      have hS := ke
      (try simp only [Act.put]); (try simp only [List.setIfInBounds_toArray]); (try simp only [List.set_cons_zero, List.set_cons_succ])
      generalize x34.heap.size = bb at HF ⊢
      refine wpAnyH_take (i := 13) (v := .pointer (some ⟨bb, 0, none⟩)) rfl (by kernel_rfl) (by kernel_rfl) (by kernel_rfl) (fun _ _ _ h => h) (Or.inl ⟨by kernel_rfl, fun w' h => by go_simp⟩) hS ?_
      (try simp only [Act.put]); (try simp only [List.setIfInBounds_toArray]); (try simp only [List.set_cons_zero, List.set_cons_succ])
      refine wpAnyH_done (by kernel_rfl) ?_ _
      (try simp only [List.append]); (try simp only [Act.put]); (try simp only [List.getElem_toArray]); (try simp only [List.getElem_cons_succ, List.getElem_cons_zero]); (try simp only [List.setIfInBounds_toArray]); (try simp only [List.set_cons_succ, List.set_cons_zero])
      go_wp2
      go_ret
      exact ⟨_, _, _, _, rfl, HF.out⟩

end Go.Proofs.Ytmokokhhheonoaa
