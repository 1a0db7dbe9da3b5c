/- The document's order and small. -/
import Derived.Test.YtfifgmcjilkigabPRefA
namespace Go.Proofs.Ytfifgmcjilkigab
open Go.RowKit Go.Maps

def ordGo (es fs : List Int) : Nat → Nat → Int
  | 0, _ => 0
  | n + 1, k => if expI es k < expI fs k then -1 else if expI fs k < expI es k then 1 else ordGo es fs n (k + 1)

/-- Which of two rows of exponents comes first, where one that ends goes on with 0. -/
def ordX (es fs : List Int) : Int := ordGo es fs (max es.length fs.length) 0

theorem expI_range {es : List Int} (h : ∀ (k : Nat) (x : Int), es[k]? = some x → -9223372036854775808 ≤ x ∧ x ≤ 9223372036854775807) (k : Nat) : -9223372036854775808 ≤ expI es k ∧ expI es k ≤ 9223372036854775807 := by
  unfold expI
  cases hk : es[k]? with
  | none => simp
  | some x => exact h k x hk

/-- Whether a monomial is in bounds, as the document's small says it. -/
def smallR (m : Mn) : Bool := m.2.all (fun n => decide (n ≤ 64)) && (decide (m.1.length ≤ 64) && decide (m.2.length ≤ 512))

end Go.Proofs.Ytfifgmcjilkigab
