/- Monomials and polynomials as plain data, and what the checks say of them. -/
import Derived.Test.YtfifgmcjilkigaaNum
namespace Go.Proofs.Ytfifgmcjilkigaa

/-- A monomial: its limbs and its exponents. -/
abbrev Mn := List Nat × List Int

/-- Which of two rows of numbers comes first, where a row that goes on is behind the one that ends. -/
def cmpX : List Int → List Int → Int
  | [], [] => 0
  | [], _ :: _ => -1
  | _ :: _, [] => 1
  | a :: as, b :: bs => if a < b then -1 else if b < a then 1 else cmpX as bs

/-- Whether it is a monomial. -/
def monB (m : Mn) : Bool := !(m.1.length == 0) && rightB m.1 && m.2.all (fun n => decide (0 ≤ n)) && (m.2.length == 0 || !(m.2[m.2.length - 1]? == some 0))

/-- The exponents of the monomial of some number. -/
def expsAt (p : List Mn) (k : Nat) : List Int := ((p[k]?).map (·.2)).getD []

/-- Whether the monomial of that number is right where it stands. -/
def okAt (p : List Mn) (vars : Int) (k : Nat) : Bool :=
  (match p[k]? with | some m => monB m && decide ((m.2.length : Int) ≤ vars) | none => false) && (k == 0 || decide (cmpX (expsAt p (k - 1)) (expsAt p k) < 0))

def polyB (p : List Mn) (vars : Int) : Bool := (List.range p.length).all (okAt p vars)

theorem polyB_iff {p : List Mn} {vars : Int} : polyB p vars = true ↔ ∀ k, k < p.length → okAt p vars k = true := by
  simp [polyB, List.all_eq_true]

def smallB (m : Mn) : Bool := decide (m.2.length ≤ 512) && m.2.all (fun n => decide (n ≤ 64))

def boundsB (p : List Mn) : Bool := decide (p.length ≤ 256) && p.all smallB

/-- What Check answers. -/
def checkE (p : List Mn) (vars : Int) : Int := if vars < 0 then 1 else if polyB p vars = false then 20 else if boundsB p = false then 2 else 0

/-- What checkAll answers. -/
def checkAllE : List (List Mn) → Int
  | [] => 0
  | p :: r => if checkE p 9223372036854775807 = 0 then checkAllE r else checkE p 9223372036854775807

theorem cmpX_drop {as bs : List Int} : ∀ k, as.take k = bs.take k → k ≤ as.length → k ≤ bs.length → cmpX as bs = cmpX (as.drop k) (bs.drop k) := by
  intro k
  induction k generalizing as bs with
  | zero => intros; rfl
  | succ k ih =>
    intro h ha hb
    match as, bs with
    | [], _ => simp at ha
    | _ :: _, [] => simp at hb
    | a :: as, b :: bs =>
      simp only [List.take_succ_cons, List.cons.injEq] at h
      obtain ⟨rfl, h⟩ := h
      simp only [List.drop_succ_cons, cmpX, Int.lt_irrefl, if_false]
      exact ih h (by simpa using ha) (by simpa using hb)

theorem cmpX_self (as : List Int) : cmpX as as = 0 := by
  induction as with
  | nil => rfl
  | cons a as ih => simp [cmpX, ih]

theorem cmpX_range (as bs : List Int) : -1 ≤ cmpX as bs ∧ cmpX as bs ≤ 1 := by
  induction as generalizing bs with
  | nil => cases bs <;> simp [cmpX]
  | cons a as ih =>
    cases bs with
    | nil => simp [cmpX]
    | cons b bs =>
      unfold cmpX
      have := ih bs
      split
      · omega
      · split
        · omega
        · exact this

theorem drop_get {α : Type} {as : List α} {k : Nat} {x : α} (h : as[k]? = some x) : as.drop k = x :: as.drop (k + 1) := by
  have hk := (List.getElem?_eq_some_iff.1 h)
  obtain ⟨hk, rfl⟩ := hk
  exact List.drop_eq_getElem_cons hk

theorem take_get {α : Type} {as : List α} {k : Nat} {x : α} (h : as[k]? = some x) : as.take (k + 1) = as.take k ++ [x] := by
  rw [List.take_add_one, h]; rfl

end Go.Proofs.Ytfifgmcjilkigaa
