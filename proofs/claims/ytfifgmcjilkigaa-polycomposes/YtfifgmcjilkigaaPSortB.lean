/- Keys, sorted. -/
import Derived.Test.YtfifgmcjilkigaaPSortA
import Derived.Shelf.SlGeneric
import Derived.Ground.SlsfProg
namespace Go.Proofs
open Go.Shelf Go.RowKit Go.Lib Go.Sort

shelf_lay_g SlLaysF0.n6 Slsf 6 at Try 66 as Try.sortLay

end Go.Proofs

namespace Go.Proofs.Ytfifgmcjilkigaa
open Go.RowKit Go.Maps Go.Sort

set_option maxRecDepth 100000 in
set_option maxHeartbeats 800000 in
theorem closure_any (a b : List Nat) (W : World) (ha : WfK a) (hb : WfK b) :
    Calls Try.prog 67 #[.agg (arr a), .agg (arr b)] W fun e w' => e = .returned (.int .i64 (cmpK a b)) ∧ ∃ q os', w' = grow (W.drewN q) os' := by
  have HA : Hid (Ar ((W.alloc (.cells (arr a) 70)).alloc (.cells (arr b) 70)) W.heap.size a) := (Ar.new W a).later (below_alloc _)
  have hB := Ar.new (W.alloc (.cells (arr a) 70)) b
  rw [show (W.alloc (.cells (arr a) 70)).heap.size = W.heap.size + 1 by simp] at hB
  have HB : Hid (Ar ((W.alloc (.cells (arr a) 70)).alloc (.cells (arr b) 70)) (W.heap.size + 1) b) := hB
  have Ha : Hid (WfK a) := ha
  have Hb : Hid (WfK b) := hb
  have hlen : Try.prog.arrayLen 70 = 512 := by kernel_rfl
  clear hB ha hb
  go_enter Try.func67, Try.ntmps67
  go_wp2
  go_quiet ((go_at_call 68; exact Calls.quiet_of_same (bytesCompare_any (w := World.drewN _ _) HA.out HB.out Ha.out Hb.out)))
  go_wp2
  go_ret
  refine ⟨rfl, nq, #[.cells (arr a) 70, .cells (arr b) 70], ?_⟩
  rw [alloc_eq_grow, alloc_eq_grow, grow_grow]
  rfl

/-- A key's cells. -/
def cellsL (ks : List Nat) : List Value := ks.map fun (x : Nat) => Value.int .u8 (x : Int)

theorem arr_cells (ks : List Nat) : arr ks = (cellsL ks).toArray := rfl

theorem len_cellsL {ks : List Nat} (h : WfK ks) : (cellsL ks).length = 512 := by simp [cellsL, h.1]

/-- The slice value v is the call's own and holds the keys kss. -/
def OwK (w : World) (base : Nat) (v : Value) (kss : List (List Nat)) : Prop := w.ownsRow base 70 512 v kss.length (kss.flatMap cellsL)

theorem flat_get {kss : List (List Nat)} (hw : ∀ ks ∈ kss, WfK ks) : ∀ {i j : Nat} {ks : List Nat}, kss[i]? = some ks → j < 512 → (kss.flatMap cellsL)[i * 512 + j]? = (cellsL ks)[j]? := by
  induction kss with
  | nil => intro i j ks h; simp at h
  | cons a r ih =>
    intro i j ks h hj
    have hl := len_cellsL (hw a (by simp))
    rw [List.flatMap_cons]
    cases i with
    | zero =>
      simp only [List.getElem?_cons_zero, Option.some.injEq] at h
      subst h
      rw [Nat.zero_mul, Nat.zero_add, List.getElem?_append_left (by omega)]
    | succ i =>
      rw [List.getElem?_cons_succ] at h
      rw [List.getElem?_append_right (by rw [hl]; omega), hl, show (i + 1) * 512 + j - 512 = i * 512 + j by omega]
      exact ih (fun k hk => hw k (by simp [hk])) h hj

theorem flat_len {kss : List (List Nat)} (hw : ∀ ks ∈ kss, WfK ks) : (kss.flatMap cellsL).length = kss.length * 512 := by
  induction kss with
  | nil => rfl
  | cons a r ih =>
    rw [List.flatMap_cons, List.length_append, len_cellsL (hw a (by simp)), ih (fun k hk => hw k (by simp [hk])), List.length_cons]
    omega

def leK (a b : List Nat) : Bool := !decide (cmpK b a < 0)

/-- Keys as a type of their own. -/
abbrev KeyT := { ks : List Nat // WfK ks }

def encT (x : KeyT) : List Value := cellsL x.1

def cfT (x y : KeyT) : Int := cmpK x.1 y.1

theorem lt_of_cf (x y : KeyT) : ltOf cfT x y = decide (ltK x.1 y.1) := rfl

theorem swoT : SWO (ltOf cfT) where
  irrefl x := by rw [lt_of_cf]; exact decide_eq_false (ltK_irrefl _)
  trans x y z h1 h2 := by
    rw [lt_of_cf] at *
    exact decide_eq_true (ltK_trans (of_decide_eq_true h1) (of_decide_eq_true h2))
  ntrans x y z h1 h2 := by
    rw [lt_of_cf] at *
    have h1 := of_decide_eq_false h1
    have h2 := of_decide_eq_false h2
    refine decide_eq_false fun h => ?_
    by_cases e : x.1 = y.1
    · rw [e] at h; exact h2 h
    · exact h2 (ltK_trans (ltK_or e h1) h)

theorem totT (x y : KeyT) (h1 : ltOf cfT x y = false) (h2 : ltOf cfT y x = false) : x = y := by
  rw [lt_of_cf] at *
  have h1 := of_decide_eq_false h1
  have h2 := of_decide_eq_false h2
  apply Subtype.ext
  by_cases e : x.1 = y.1
  · exact e
  · exact absurd (ltK_or e h1) h2

theorem heap_putRow {α : Type} [Inhabited α] (enc : α → Value) (w : World) (blk off : Nat) (d : Array α) {cur : Array Value} {e : TypeId} {fr : Nat × Nat} (h : w.heap[blk]? = some (.cells cur e fr)) :
    (putRow enc w blk off d).heap[blk]? = some (.cells (putCells enc off d cur) e fr) := by
  unfold putRow mapBlock
  simp [Array.getElem?_modify, h, onCells]

theorem heap_putRow_other {α : Type} [Inhabited α] (enc : α → Value) (w : World) (blk off k : Nat) (d : Array α) (h : k ≠ blk) : (putRow enc w blk off d).heap[k]? = w.heap[k]? := by
  unfold putRow mapBlock
  simp only [Array.getElem?_modify]
  rw [if_neg (fun e => h e.symm)]

end Go.Proofs.Ytfifgmcjilkigaa
