/- What spoiling an answer does: it writes into that answer's own row, and into new memory. -/
import Derived.Test.YtaekpijpkblkgabText
namespace Go.Proofs.Ytaekpijpkblkgab
open Go.RowKit

theorem grown_none {a b : World} {r : Option Nat} (h : a.grownBy b none) : a.grownBy b r := ⟨h.os, h.tape, h.output, h.size, fun k hk _ => h.block k hk (by simp)⟩

theorem grown_step {a b c : World} {r r' : Option Nat} (h : a.grownBy b r) (h' : b.grownBy c r') (hr : ∀ g, r' = some g → r = some g ∨ a.heap.size ≤ g) : a.grownBy c r :=
  ⟨h'.os.trans h.os, h'.tape.trans h.tape, h'.output.trans h.output, Nat.le_trans h.size h'.size, fun k hk hne => (h'.block k (Nat.lt_of_lt_of_le hk h.size) (fun e => by
    rcases hr k e.symm with h1 | h1
    · exact hne h1.symm
    · omega)).trans (h.block k hk hne)⟩

theorem grown_setCell {a b : World} {r : Option Nat} (h : a.grownBy b r) {g : Nat} (hr : r = some g ∨ a.heap.size ≤ g) (o : Nat) (u : Value) : a.grownBy (b.setCell ⟨g, o, none⟩ u) r :=
  grown_step h (r' := some g) ⟨rfl, rfl, rfl, by simp [World.setCell], fun k _ hk => Below.heap_setCell _ _ _ _ (fun e => hk (by rw [e]))⟩ (fun g' e => by simp at e; subst e; exact hr)

theorem own_pos {w : World} {base n : Nat} {v : Value} {xs : List Value} (h : w.ownsRow base 32 1 v n xs) {M : Nat} (hM : M + 1 = n) :
    ∃ g cap, v = .slice (some ⟨g, 0, none⟩) (M + 1) cap ∧ base ≤ g ∧ M + 1 ≤ cap ∧ cap ≤ 9223372036854775807 ∧ (∃ u, w.cell? ⟨g, M, none⟩ = some u) ∧ w.frozen? ⟨g, M, none⟩ = false := by
  subst hM
  rcases h.2 with ⟨_, h0⟩ | ⟨g, cap, cur, rfl, hb, hg, hc, hm, hs, ht⟩
  · omega
  · unfold maxLen at hm
    refine ⟨g, cap, rfl, hb, hc, by omega, ?_, World.ownsRow.frozenAt h M⟩
    have hl := h.1
    exact ⟨_, (World.ownsRow.cellAt h M (by omega)).trans (List.getElem?_eq_getElem (by omega))⟩

end Go.Proofs.Ytaekpijpkblkgab
