/- A slice of limbs that came in, as a row reads it. -/
import Derived.Test.YtaekpijpkblkgaaShown
import Derived.Test.YtaekpijpkblkgaaRows
import Derived.ProofKit
import Derived.OpenShut
import Derived.ShutString
import Derived.ChangeOld
namespace Go.Proofs.Ytaekpijpkblkgaa
open Go.RowKit

theorem below_of_drawn {w w' : World} {n : Nat} (h : w' = w.drewN n) : Below w.heap.size w w' := by rw [h]; exact below_drewN (Below.refl _ _) n

theorem dec_same (l : List Nat) : decide (l = l) = true := by simp

theorem Ow.later {w w' : World} {base : Nat} {v : Value} {xs : List Nat} (h : Ow w base v xs) (hb : Below w.heap.size w w') : Ow w' base v xs :=
  h.kept (row := none) ⟨hb.os, hb.tape, hb.output, hb.size, fun k hk _ => hb.block k hk⟩ (by cases hv : v.ownBlock <;> simp)

theorem bdrewN {w w1 : World} (h : Below w.heap.size w w1) (n : Nat) : Below w.heap.size w (w1.drewN n) := below_drewN h n

theorem own : ownKnob Try.prog.godebug = none := by kernel_rfl
theorem laidOut : laidOutB Try.prog = true := by kernel_rfl

/-- A slice of integers that came in: nil; or it leads to a row of 'cap' cells, the numbers 'zs' (the first 'len' are its elements). -/
def IsRow (k : IntKind) (w : World) (a : Option Addr) (len cap : Nat) (zs : List Int) : Prop :=
  (a = none ∧ len = 0 ∧ cap = 0 ∧ zs = []) ∨
  ∃ x, a = some x ∧ len ≤ cap ∧ cap ≤ maxLen ∧ zs.length = cap ∧ (∀ i, i < zs.length → w.cell? (x.add i) = some (.int k (zs.getD i 0))) ∧ ∀ n ∈ zs, (Lit.int k n).wf = true

theorem wf_u32 {n : Int} (h : (Lit.int .u32 n).wf = true) : 0 ≤ n ∧ n < 4294967296 := by
  have := bounds_u32 h
  omega

theorem IsRow.sl {w : World} {a : Option Addr} {len cap : Nat} {zs : List Int} (h : IsRow .u32 w a len cap zs) : Sl w (.slice a len cap) ((zs.take len).map Int.toNat) := by
  rcases h with ⟨rfl, rfl, rfl, rfl⟩ | ⟨x, rfl, hlc, hm, hz, hc, hw⟩
  · exact ⟨by intro y hy; simp at hy, none, 0, rfl, by simp, by simp [maxLen], by simp⟩
  · have hlen : ((zs.take len).map Int.toNat).length = len := by simp; omega
    refine ⟨?_, some x, cap, by rw [hlen], by omega, hm, fun h0 => ?_⟩
    · intro y hy
      obtain ⟨z, hz1, rfl⟩ := List.mem_map.1 hy
      have := wf_u32 (hw z (List.mem_of_mem_take hz1))
      omega
    · rw [hlen] at h0
      obtain ⟨g, off, rfl, _⟩ := ints_at hc (by omega)
      refine ⟨g, off, rfl, World.block_lt_of_cell? w _ (hc 0 (by omega)), ?_⟩
      intro k y hk
      have hkl : k < len := by have := (List.getElem?_eq_some_iff.1 hk).1; omega
      have h1 := hc k (by omega)
      rw [Addr.add_lit] at h1
      rw [h1]
      have hkz : k < zs.length := by omega
      have h2 := wf_u32 (hw zs[k] (List.getElem_mem hkz))
      simp only [List.getElem?_map, List.getElem?_take_of_lt hkl, List.getElem?_eq_getElem hkz, Option.map_some, Option.some.injEq] at hk
      rw [List.getD_eq_getElem?_getD, List.getElem?_eq_getElem hkz, Option.getD_some, ← hk]
      congr 2
      omega

theorem IsRow.short {k : IntKind} {w : World} {a : Option Addr} {len cap : Nat} {zs : List Int} (h : IsRow k w a len cap zs) (hc : cap * 4 ≤ 140737488351232) : ((zs.take len).map Int.toNat).length * 4 ≤ 140737488351232 := by
  rcases h with ⟨rfl, rfl, rfl, rfl⟩ | ⟨x, rfl, hlc, hm, hz, _⟩
  · simp
  · simp
    omega

end Go.Proofs.Ytaekpijpkblkgaa
