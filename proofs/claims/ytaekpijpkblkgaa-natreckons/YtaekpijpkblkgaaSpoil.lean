/- What spoiling an answer does: it writes into that answer's own row, and into new memory. -/
import Derived.Test.YtaekpijpkblkgaaText
namespace Go.Proofs.Ytaekpijpkblkgaa
open Go.RowKit

theorem grown_none {a b : World} {r : Option Nat} (h : a.grownBy b none) : a.grownBy b r := ⟨h.os, h.tape, h.output, h.size, fun k hk _ => h.block k hk (by simp)⟩

theorem grown_step {a b c : World} {r r' : Option Nat} (h : a.grownBy b r) (h' : b.grownBy c r') (hr : ∀ g, r' = some g → r = some g ∨ a.heap.size ≤ g) : a.grownBy c r :=
  ⟨h'.os.trans h.os, h'.tape.trans h.tape, h'.output.trans h.output, Nat.le_trans h.size h'.size, fun k hk hne => (h'.block k (Nat.lt_of_lt_of_le hk h.size) (fun e => by
    rcases hr k e.symm with h1 | h1
    · exact hne h1.symm
    · omega)).trans (h.block k hk hne)⟩

theorem grown_setCell {a b : World} {r : Option Nat} (h : a.grownBy b r) {g : Nat} (hr : r = some g ∨ a.heap.size ≤ g) (o : Nat) (u : Value) : a.grownBy (b.setCell ⟨g, o, none⟩ u) r :=
  grown_step h (r' := some g) ⟨rfl, rfl, rfl, by simp [World.setCell], fun k _ hk => Below.heap_setCell _ _ _ _ (fun e => hk (by rw [e]))⟩ (fun g' e => by simp at e; subst e; exact hr)

theorem own_pos {w : World} {base n : Nat} {v : Value} {xs : List Value} (h : w.ownsRow base 42 1 v n xs) {M : Nat} (hM : M + 1 = n) :
    ∃ g cap, v = .slice (some ⟨g, 0, none⟩) (M + 1) cap ∧ base ≤ g ∧ M + 1 ≤ cap ∧ cap ≤ 9223372036854775807 ∧ (∃ u, w.cell? ⟨g, M, none⟩ = some u) ∧ w.frozen? ⟨g, M, none⟩ = false := by
  subst hM
  rcases h.2 with ⟨_, h0⟩ | ⟨g, cap, cur, rfl, hb, hg, hc, hm, hs, ht⟩
  · omega
  · unfold maxLen at hm
    refine ⟨g, cap, rfl, hb, hc, by omega, ?_, World.ownsRow.frozenAt h M⟩
    have hl := h.1
    exact ⟨_, (World.ownsRow.cellAt h M (by omega)).trans (List.getElem?_eq_getElem (by omega))⟩

set_option maxHeartbeats 1000000 in
theorem spoil_any (v : Value) (xs : List Nat) (base : Nat) (w : World) (h : Ow w base v xs) (h64 : xs.length ≤ 64) :
    Calls Try.prog 15 #[v] w fun e w' => e = .returned (.tuple #[]) ∧ w.grownBy w' v.ownBlock := by
  obtain ⟨i0, hi, hz0, hz1, hz2⟩ := info_parts info_u32
  rcases h.shape with ⟨rfl, rfl⟩ | ⟨g, cap, rfl, hb, hg, hc, hm, q1, q2⟩
  · clear h
    go_enter Try.func15, Try.ntmps15
    go_wp2
    refine wp_loop_rounds 1 ?_
    rw [rounds_succ]
    go_wp2_with (first
      | (at_builtin; refine wpList_append_grows _ rfl _ _ 22 rfl 42 i0 (.int .u32 0) 1 4 under_row hi hz0 hz1 hz2 rfl (by decide) none 0 0 [] rfl (fun _ => ⟨rfl, rfl⟩) rfl (fun b hb => by cases hb) ⟨w.heap.size, 0, none⟩ 2 2 [.int .u32 98, .int .u32 97] rfl rfl (cell_two_new _ _ _ _) ?c2 (by omega) (by unfold maxLen; omega) (by omega) ?_; rotate_right; intro v4 w4 hown4 hgrow4; obtain ⟨g4, cap4, rfl, hg4, hc4, hm4, ⟨u4, hu4⟩, hf4⟩ := own_pos hown4 (M := 1) rfl; clear hown4))
    case c2 => intro u hu; simp at hu; rcases hu with rfl | rfl <;> rfl
    go_end0
    refine ⟨rfl, grown_setCell (grown_step (World.grownBy_alloc w _ _) hgrow4 (by intro g e; cases e)) (.inr (by simp at hg4; omega)) _ _⟩
  · unfold maxLen at hm
    have HO : Hid (Ow w base (.slice (some ⟨g, 0, none⟩) xs.length cap) xs) := h
    clear h q1 q2
    go_enter Try.func15, Try.ntmps15
    go_wp2
    go_loopw [2] (fun i wr => ∃ (k : Nat) (Z : List Nat), k ≤ xs.length ∧ i = .int .i64 k ∧ Z.length = xs.length ∧ Ow wr base (.slice (some ⟨g, 0, none⟩) xs.length cap) Z ∧ w.grownBy wr (some g)) (fun i _ => xs.length - (intOf i).toNat)
    case atStart => exact ⟨0, xs, Nat.zero_le _, rfl, rfl, HO.out, World.grownBy.refl _ _⟩
    case round =>
      obtain ⟨k, Z, hk, rfl, hZ, hown, hgr⟩ := hrel
      have HZ : Hid (Z.length = xs.length) := hZ
      have HW : Hid (Ow wr base (.slice (some ⟨g, 0, none⟩) xs.length cap) Z) := hown
      clear hZ hown
      by_cases hlt : k < xs.length
      · obtain ⟨x, hx⟩ := exists_get (xs := Z) (k := k) (by rw [HZ.out]; exact hlt)
        obtain ⟨hcell, hfr⟩ := HW.out.at hx
        have hp := HW.out.store HZ.out.symm k 99 (by omega)
        have HP : Hid (Ow (wr.setCell ⟨g, k, none⟩ (.int .u32 99)) base (.slice (some ⟨g, 0, none⟩) xs.length cap) (Z.set k 99) ∧ wr.grownBy (wr.setCell ⟨g, k, none⟩ (.int .u32 99)) (some g)) := hp
        clear hp hx
        go_wp2
        go_roundw
        case rel => exact ⟨k + 1, _, by omega, by go_num, by rw [List.length_set, HZ.out], HP.out.1, grown_trans hgr HP.out.2⟩
        case measure => simp [intOf]; omega
      · have hk' : k = xs.length := by omega
        subst hk'
        by_cases hroom : xs.length + 2 ≤ cap
        · go_wp2_with (first
            | (at_builtin; refine wpList_append_fits _ rfl _ _ 22 rfl base 42 i0 1 under_row hi hz1 g xs.length cap (Z.map U) rfl (by have := HW.out.2; rw [HZ.out] at this; exact World.ownsRow.alloc this _) ⟨wr.heap.size, 0, none⟩ 2 2 [.int .u32 98, .int .u32 97] rfl rfl (cell_two_new _ _ _ _) ?c2 hroom ?_; rotate_right; intro w4 hown4 hgrow4; obtain ⟨g4, cap4, he4, hg4, hc4, hm4, ⟨u4, hu4⟩, hf4⟩ := own_pos hown4 (M := xs.length + 1) rfl; simp only [Value.slice.injEq, Option.some.injEq, Addr.mk.injEq, and_true, true_and] at he4; obtain ⟨rfl, rfl⟩ := he4; clear hown4))
          case c2 => intro u hu; simp at hu; rcases hu with rfl | rfl <;> rfl
          go_end0
          exact ⟨rfl, grown_setCell (grown_trans (grown_trans hgr (World.grownBy_alloc wr _ _)) hgrow4) (.inl rfl) _ _⟩
        · go_wp2_with (first
            | (at_builtin; refine wpList_append_grows _ rfl _ _ 22 rfl 42 i0 (.int .u32 0) 1 4 under_row hi hz0 hz1 hz2 rfl (by decide) (some ⟨g, 0, none⟩) xs.length cap (Z.map U) rfl (by intro e; cases e) (by simp [HZ.out]) ?c3 ⟨wr.heap.size, 0, none⟩ 2 2 [.int .u32 98, .int .u32 97] rfl rfl (cell_two_new _ _ _ _) ?c2 (by omega) (by unfold maxLen; omega) (by omega) ?_; rotate_right; intro v4 w4 hown4 hgrow4; obtain ⟨g4, cap4, rfl, hg4, hc4, hm4, ⟨u4, hu4⟩, hf4⟩ := own_pos hown4 (M := xs.length + 1) rfl; clear hown4))
          case c2 => intro u hu; simp at hu; rcases hu with rfl | rfl <;> rfl
          case c3 =>
            intro b eb j u hj
            simp only [Option.some.injEq] at eb
            subst eb
            exact World.ownsRow.cells (World.ownsRow.alloc HW.out.2 _) rfl j u hj
          go_end0
          have hs := hgr.size
          exact ⟨rfl, grown_setCell (grown_step (grown_trans hgr (World.grownBy_alloc wr _ _)) hgrow4 (by intro g e; cases e)) (.inr (by simp at hg4; omega)) _ _⟩

end Go.Proofs.Ytaekpijpkblkgaa
