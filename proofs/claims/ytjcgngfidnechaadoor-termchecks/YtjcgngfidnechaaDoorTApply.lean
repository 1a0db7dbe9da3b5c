/- What Apply answers. -/
import Derived.Test.YtjcgngfidnechaaDoorTMap
namespace Go.Proofs.YtjcgngfidnechaaDoor
open Go.RowKit Go.Maps

/-- The map's values are the terms of binds. -/
def Terms (w : World) : List (Int × Value) → List Bd → Prop
  | [], [] => True
  | (k, v) :: L, (x, t) :: s => k = x ∧ Is w v t ∧ Terms w L s
  | _, _ => False

theorem Terms.kp {w w' : World} (hk : Kp w w') : ∀ {L : List (Int × Value)} {s : List Bd}, Terms w L s → Terms w' L s
  | [], [], _ => trivial
  | (_, _) :: _, (_, _) :: _, ⟨h1, h2, h3⟩ => ⟨h1, h2.kp hk, Terms.kp hk h3⟩
  | [], _ :: _, h => h.elim
  | _ :: _, [], h => h.elim

theorem Terms.len {w : World} : ∀ {L : List (Int × Value)} {s : List Bd}, Terms w L s → L.length = s.length
  | [], [], _ => rfl
  | (_, _) :: _, (_, _) :: _, ⟨_, _, h3⟩ => congrArg (· + 1) (Terms.len h3)
  | [], _ :: _, h => h.elim
  | _ :: _, [], h => h.elim

theorem Terms.look {w : World} (n : Int) : ∀ {L : List (Int × Value)} {s : List Bd}, Terms w L s → (∀ t, s.lookup n = some t → ∃ v, L.lookup n = some v ∧ Is w v t) ∧ (s.lookup n = none → L.lookup n = none)
  | [], [], _ => ⟨fun t h => (by cases h), fun _ => rfl⟩
  | (k, v) :: L, (x, t) :: s, ⟨h1, h2, h3⟩ => by
    subst h1
    rw [List.lookup_cons, List.lookup_cons]
    cases hk : n == k with
    | true => exact ⟨fun u hu => ⟨v, rfl, by cases hu; exact h2⟩, fun h => by cases h⟩
    | false => exact Terms.look n h3
  | [], _ :: _, h => h.elim
  | _ :: _, [], h => h.elim

end Go.Proofs.YtjcgngfidnechaaDoor
