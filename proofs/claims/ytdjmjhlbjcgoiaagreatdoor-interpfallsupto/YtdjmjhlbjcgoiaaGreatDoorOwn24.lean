/- Pairs of rows, pairs of numbers and rules that came in, as a row of the claim reads them. -/
import Derived.Test.YtdjmjhlbjcgoiaaGreatDoorOwn22
import Derived.OpenShut
import Derived.ChangeSame
namespace Go.Proofs.YtdjmjhlbjcgoiaaGreatDoor
open Go.ChangeShapes Go.WideShapes Go.ChangeAt Go.RowKit Go.Deep Go.Maps

set_option maxRecDepth 100000 in
theorem open_rule {H : Type} {enc : TypeId × Value → H} {W : World} {base fuel : Nat} {held : Bool} {cs : List Value} {x : DataW H × List MemPlace}
    (h : DataW.trod enc Tryz.prog W base (fun _ => true) held fuel 41 cs = some x) (hR : ∀ n ∈ x.1.weights Tryz.prog 41, n ≤ 140737488351232) :
    ∃ v0 v1 p q, cs = [v0, v1] ∧ Is W v0 p ∧ Is W v1 q ∧ p.length * 8 ≤ 140737488351232 ∧ q.length * 8 ≤ 140737488351232 ∧ p.length + q.length ≤ Rows.uptoBulk x.1 := by
  obtain ⟨y0, y1, m, hx, hl, h0, h1⟩ := trod_struct2 Tryz.underlying41 h
  rw [show Tryz.prog.cellsOf 41 = 2 by kernel_rfl] at hl
  match cs, hl with
  | [v0, v1], _ =>
    have h0' : DataW.trod enc Tryz.prog W base (fun _ => true) held m 30 [v0] = some y0 := h0
    have h1' : DataW.trod enc Tryz.prog W base (fun _ => true) held m 30 [v1] = some y1 := h1
    obtain ⟨u0, p, e0, hp, fp⟩ := open_nums h0'
    obtain ⟨u1, q, e1, hq, fq⟩ := open_nums h1'
    simp only [List.cons.injEq, and_true] at e0 e1
    subst e0
    subst e1
    have hx1 : x.1 = .agg [y0.1, y1.1] := by rw [hx]
    have b0 := bulk_nums h0' hp
    have b1 := bulk_nums h1' hq
    refine ⟨v0, v1, p, q, rfl, hp, hq, fp _ fun n hn => hR n ?_, fq _ fun n hn => hR n ?_, ?_⟩
    · rw [hx1]
      exact weight_agg Tryz.underlying41 (j := 0) rfl rfl hn
    · rw [hx1]
      exact weight_agg Tryz.underlying41 (j := 1) rfl rfl hn
    · rw [hx1]
      simp only [Rows.uptoBulk, Rows.uptoBulkAll]
      omega

end Go.Proofs.YtdjmjhlbjcgoiaaGreatDoor
