/- A range over a function whose rounds are numbered: round k is handed just what the iterator hands it then. -/
import Derived.Test.YtjcgngfidnechaaDoorTTreeB
import Derived.RangeFuncNested
import Derived.RangeFuncBound
import Derived.RangeFuncCalls
import Derived.RangeFuncLeaves
import Derived.RangeFuncBox
import Derived.Shelf.Abstract
import Derived.Shelf.RegionOpen
import Derived.OwnWalkIn
import Derived.TacticsInMore
import Derived.LoopNIn
import Derived.LoopIn
namespace Go.Proofs.YtjcgngfidnechaaDoor
open Go.RowKit Go.Maps Go.Shelf

attribute [local go_sem] Oper.semAt_some

section
variable {P : Program} {F : Fence} {n : Nat}

/-- Rounds by their numbers. -/
theorem range_rounds {g : Operand} {ps : Array Tmp} {assign body : Code} {Q : Exit → Act → World → Prop} {a : Act} {w : World} (hro : F.round = none) (h1 : 1 ≤ n) {gf : Nat} {lb : Array Value}
    (hg : a.eval g = .func (.func gf) #[] lb) (hFg : F.fn gf) (eg : ∀ args w, (callFunc gf args).run P w = .ok (.enter gf args) w)
    (args : Nat → Array Value) (N : Nat) (hps : ∀ k, (args k).size = ps.size) (Rd : World → Prop) (I : Nat → World → Prop)
    (hput : ∀ (k : Nat) (W : World) (l : Nat) (o o' : Obj), w.heap.size ≤ l → W.heap[l]? = some o → o.isCells = false → I k W → I k (W.putObj l o'))
    (h0 : ∀ r : Loop, I 0 ((w.alloc (.deferred (some []))).alloc (.loop r))) (hRd : ∀ k W, I k W → Rd W)
    (hseq : ∀ (l : Nat) (J : Nat → World → Prop) (W : World), (∀ k W1, J k W1 → Rd W1) → (∀ k W1, k < N → J k W1 → YieldAt F (n - 1 - 1) P l (args k) W1 fun e W' => e = .returned (.bool true) ∧ J (k + 1) W') → J 0 W →
      CallsIn F (n - 1) P gf (#[.func (.yield l) #[] #[]] ++ lb) W fun e W' => (∃ v, e = .returned v) ∧ J N W')
    (a1 : Nat → Act)
    (hassign : ∀ (l k : Nat) (W : World) (K : Act → World → Prop), K (a1 k) W → assign.wpIn (F.inRound l) (n - 1 - 1) P (Exit.then K (fun _ _ _ => False)) { tmps := (ps.zip (args k)).foldl (fun t (p, v) => t.setIfInBounds p v) a.tmps, defers := [] } W)
    (hbody : ∀ (l k : Nat) (W : World), k < N → I k W → body.wpIn (F.inRound l) (n - 1 - 1) P (fun e _ W' => e = .normal ∧ KeepsFrom w.heap.size W W' ∧ I (k + 1) W') (a1 k) W)
    (hdone : ∀ (D : Nat) (W : World), w.heap.size ≤ D → I N W → W.heap[D]? = some (.deferred (some [])) → Q .normal { a with defers := { target := .collected D, args := #[] } :: a.defers } W) :
    (Code.rangeFunc g ps assign body).wpIn F n P Q a w := by
  refine wpIn_rangeFunc fun fn hfn => ?_
  rw [hro]
  -- the record of the loop, as it stands between two rounds and in one
  obtain ⟨R, hR⟩ : ∃ R : LoopState → Loop, R = fun s => { state := s, pending := none, fn, tmps := a.tmps, params := ps, assign, body, defers := w.heap.size } := ⟨_, rfl⟩
  have hRs : ∀ s, (R s).state = s := fun s => by rw [hR]
  have hRb : ∀ s s', { R s with state := s' } = R s' := fun s s' => by rw [hR]
  obtain ⟨l, hl⟩ : ∃ l, l = w.heap.size + 1 := ⟨_, rfl⟩
  obtain ⟨W1, hW1⟩ : ∃ W, W = (w.alloc (.deferred (some []))).alloc (.loop (R .ready)) := ⟨_, rfl⟩
  have hl1 : W1.heap[l]? = some (.loop (R .ready)) := by
    rw [hW1, hl]
    have := World.alloc_heap_new (w.alloc (.deferred (some []))) (.loop (R .ready))
    rwa [World.size_alloc] at this
  have hd1 : W1.heap[w.heap.size]? = some (.deferred (some [])) := by
    rw [hW1]
    exact (Below.heap_alloc _ _ _ (by simp)).trans (World.alloc_heap_new w _)
  refine ⟨l, [{ target := .collected w.heap.size, args := #[] }], W1, { target := .fn (.func gf) lb, args := #[.func (.yield l) #[] #[]] }, W1, gf, #[.func (.yield l) #[] #[]] ++ lb, W1, ?_, ?_, ?_, ?_, fun _ => h1, ?_⟩
  · rw [hl, hW1, hR]
    exact run_enterLoop_outer _ _ _ _ _
  · simp only [resolve, hg]
    simp [go_sem]
  · intro f' hf'
    simp [Target.leads] at hf'
    subst hf'
    exact hFg
  · simp [invoke, go_sem, eg]
  · refine (hseq l (fun k W => I k W ∧ W.heap[l]? = some (.loop (R .ready)) ∧ W.heap[w.heap.size]? = some (.deferred (some []))) W1 (fun k W h => hRd k W h.1) ?_ ⟨by rw [hW1]; exact h0 _, hl1, hd1⟩).mono ?_
    · rintro k W hk ⟨hi, hL, hD⟩
      have hlt := (Array.getElem?_eq_some_iff.1 hL).1
      have hy := run_yield (P := P) (args := args k) hL (by rw [hR]; exact hps k)
      refine ⟨_, _, _, _, hy, ?_⟩
      rw [show (R .ready).assign = assign by rw [hR], show (R .ready).body = body by rw [hR], show (R .ready).fn = fn by rw [hR], show (R .ready).tmps = a.tmps by rw [hR], show (R .ready).params = ps by rw [hR]]
      refine roundIn_of_wpIn hfn (hassign l k W _ ⟨_, run_beginRound hL (hRs _), ?_⟩)
      rw [hRb]
      have hL2 : (W.putObj l (.loop (R .busy))).heap[l]? = some (.loop (R .busy)) := World.putObj_heap_same hlt
      have hD2 : (W.putObj l (.loop (R .busy))).heap[w.heap.size]? = some (.deferred (some [])) := (World.putObj_heap_other (by omega)).trans hD
      refine wpIn_mono (hbody l k _ hk (hput k W l _ _ (by omega) hL rfl hi)) ?_
      rintro e a3 W3 ⟨rfl, hkf, hi3⟩
      have hL3 := hkf.same _ _ (show w.heap.size ≤ l by omega) hL2 rfl
      have hD3 := hkf.same _ _ (Nat.le_refl _) hD2 rfl
      have he := run_endRound (P := P) none hL3
      refine ⟨_, _, he, rfl, ?_, ?_, ?_⟩
      · exact hput _ W3 l _ _ (by omega) hL3 rfl hi3
      · rw [World.putObj_heap_same (Array.getElem?_eq_some_iff.1 hL3).1]
        simp only [Option.isNone_none, if_true]
        rw [hR]
      · exact (World.putObj_heap_other (by omega)).trans hD3
    · rintro e W2 ⟨⟨v, rfl⟩, hi, hL, hD⟩
      have he := run_endLoop (P := P) hL (by rw [hRs]; simp)
      rw [show (R .ready).pending = none by rw [hR]] at he
      exact ⟨none, _, he, hdone _ _ (Nat.le_refl _) (hput _ W2 l _ _ (by omega) hL rfl hi) ((World.putObj_heap_other (by omega)).trans hD)⟩

end

end Go.Proofs.YtjcgngfidnechaaDoor
