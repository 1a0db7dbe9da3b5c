/- The document's examples: the plain functions at them. -/
import Derived.Test.YtfifgmcjilkigaaPLeast
namespace Go.Proofs.Ytfifgmcjilkigaa
open Go.RowKit Go.Maps

def pX : List Mn := [([1], [1])]
def pY : List Mn := [([1], [0, 1])]
def pI : List Mn := [([1], [])]
def pA : List Mn := [([1], []), ([1], [1])]
def pB : List Mn := [([1], []), ([1], [0, 1])]
def pC : List Mn := [([1], []), ([1], [0, 1]), ([1], [1]), ([1], [1, 1])]
def pP : List Mn := [([3], []), ([2], [1, 1])]
def pD : List Mn := [([3], []), ([2], [1]), ([2], [2])]
def pS : List Mn := [([1], [2])]
def pT : List Mn := [([1], [2, 1])]
def pF : List Mn := [([1], [40])]
def pG : List Mn := [([1], [1, 1])]

theorem ex_a : addPE pX pI = 0 ∧ addPL pX pI = pA := by decide +kernel
theorem ex_b : addPE pY pI = 0 ∧ addPL pY pI = pB := by decide +kernel
theorem ex_c : mulPE pA pB = 0 ∧ mulPL pA pB = pC := by decide +kernel
theorem ex_d : compE pP [pA, pX] = 0 ∧ compL pP [pA, pX] = pD := by decide +kernel
theorem ex_v : valE pP [[5], [7]] = 0 ∧ valL pP [[5], [7]] = [73] := by decide +kernel
theorem ex_j : compE pS [pF] = 2 := by decide +kernel
theorem ex_n : compE pT [pF, []] = 0 ∧ compL pT [pF, []] = [] := by decide +kernel
theorem ex_ch : checkE pP 2 = 0 ∧ checkE pP 1 = 20 ∧ checkE pP (-1) = 1 := by decide +kernel
theorem ex_gr : greaterB pP pG = true ∧ atLeastB pX pY = false := by decide +kernel

end Go.Proofs.Ytfifgmcjilkigaa
