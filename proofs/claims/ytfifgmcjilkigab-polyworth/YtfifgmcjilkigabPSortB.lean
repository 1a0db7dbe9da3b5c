/- Keys, sorted. -/
import Derived.Test.YtfifgmcjilkigabPSortA
import Derived.Shelf.SlGeneric
import Derived.Ground.SlsfProg
namespace Go.Proofs
open Go.Shelf Go.RowKit Go.Lib Go.Sort

def Try.sortLay_ren : Go.Shelf.Ren := ⟨fun | 6 => 47 | 15 => 53 | 14 => 54 | 28 => 57 | 29 => 58 | 20 => 59 | 21 => 60 | 22 => 61 | 23 => 62 | 24 => 63 | 25 => 64 | 26 => 65 | 27 => 66 | 46 => 68 | 47 => 69 | 48 => 70 | 49 => 71 | 50 => 72 | 57 => 73 | n => n, fun | 22 => 72 | 24 => 63 | 25 => 76 | 3 => 3 | 39 => 70 | 0 => 0 | 53 => 42 | 55 => 69 | 4 => 4 | 46 => 89 | 45 => 88 | 50 => 93 | 5 => 5 | 9 => 9 | 66 => 96 | 70 => 100 | 76 => 102 | 77 => 103 | n => n, fun | n => n⟩
theorem Try.sortLay : Go.Proofs.SlLaysF0.n6 Try.prog Try.sortLay_ren := {
  mixed := by kernel_rfl
  f6 := ⟨Try.f47.name, by decide, Try.func47.trans (congrArg some (by kernel_rfl))⟩
  f14 := ⟨Try.f54.name, by decide, Try.func54.trans (congrArg some (by kernel_rfl))⟩
  f15 := Try.func53.trans (congrArg some (by kernel_rfl))
  f20 := ⟨Try.f59.name, by decide, Try.func59.trans (congrArg some (by kernel_rfl))⟩
  f21 := ⟨Try.f60.name, by decide, Try.func60.trans (congrArg some (by kernel_rfl))⟩
  f22 := ⟨Try.f61.name, by decide, Try.func61.trans (congrArg some (by kernel_rfl))⟩
  f23 := ⟨Try.f62.name, by decide, Try.func62.trans (congrArg some (by kernel_rfl))⟩
  f24 := ⟨Try.f63.name, by decide, Try.func63.trans (congrArg some (by kernel_rfl))⟩
  f25 := ⟨Try.f64.name, by decide, Try.func64.trans (congrArg some (by kernel_rfl))⟩
  f26 := ⟨Try.f65.name, by decide, Try.func65.trans (congrArg some (by kernel_rfl))⟩
  f27 := ⟨Try.f66.name, by decide, Try.func66.trans (congrArg some (by kernel_rfl))⟩
  f28 := Try.func57.trans (congrArg some (by kernel_rfl))
  f29 := Try.func58.trans (congrArg some (by kernel_rfl))
  f46 := ⟨Try.f68.name, by decide, Try.func68.trans (congrArg some (by kernel_rfl))⟩
  f47 := Try.func69.trans (congrArg some (by kernel_rfl))
  f48 := Try.func70.trans (congrArg some (by kernel_rfl))
  f49 := ⟨Try.f71.name, by decide, Try.func71.trans (congrArg some (by kernel_rfl))⟩
  f50 := ⟨Try.f72.name, by decide, Try.func72.trans (congrArg some (by kernel_rfl))⟩
  f57 := ⟨Try.f73.name, by decide, Try.func73.trans (congrArg some (by kernel_rfl))⟩
  t0 := Try.underlying0
  a0 := Try.isAgg0
  z0 := Try.sizeOf0
  v0 := Try.zeroValue0
  t3 := Try.underlying3
  a3 := Try.isAgg3
  z3 := Try.sizeOf3
  v3 := Try.zeroValue3
  t4 := Try.underlying4
  a4 := Try.isAgg4
  z4 := Try.sizeOf4
  v4 := Try.zeroValue4
  t5 := Try.underlying5
  a5 := Try.isAgg5
  z5 := Try.sizeOf5
  v5 := Try.zeroValue5
  t9 := Try.underlying9
  a9 := Try.isAgg9
  z9 := Try.sizeOf9
  v9 := Try.zeroValue9
  t22 := Try.underlying72
  a22 := Try.isAgg72
  z22 := Try.sizeOf72
  v22 := Try.zeroValue72
  t25 := Try.underlying76
  a25 := Try.isAgg76
  z25 := Try.sizeOf76
  v25 := Try.zeroValue76
  t39 := Try.underlying70
  a39 := Try.isAgg70
  z39 := Try.sizeOf70
  v39 := Try.zeroValue70
  t45 := Try.underlying88
  a45 := Try.isAgg88
  z45 := Try.sizeOf88
  v45 := Try.zeroValue88
  t46 := Try.underlying89
  a46 := Try.isAgg89
  z46 := Try.sizeOf89
  v46 := Try.zeroValue89
  t50 := Try.underlying93
  a50 := Try.isAgg93
  z50 := Try.sizeOf93
  v50 := Try.zeroValue93
  t53 := Try.underlying42
  a53 := Try.isAgg42
  z53 := Try.sizeOf42
  v53 := Try.zeroValue42
  t55 := Try.underlying69
  a55 := Try.isAgg69
  z55 := Try.sizeOf69
  v55 := Try.zeroValue69
  t66 := Try.underlying96
  a66 := Try.isAgg96
  z66 := Try.sizeOf96
  v66 := Try.zeroValue96
  t70 := Try.underlying100
  a70 := Try.isAgg100
  z70 := Try.sizeOf100
  v70 := Try.zeroValue100
  t76 := Try.underlying102
  a76 := Try.isAgg102
  z76 := Try.sizeOf102
  v76 := Try.zeroValue102
  t77 := Try.underlying103
  a77 := Try.isAgg103
  z77 := Try.sizeOf103
  v77 := Try.zeroValue103 }

end Go.Proofs

namespace Go.Proofs.Ytfifgmcjilkigab
open Go.RowKit Go.Maps Go.Sort

set_option maxRecDepth 100000 in
set_option maxHeartbeats 800000 in
theorem closure_any (a b : List Nat) (W : World) (ha : WfK a) (hb : WfK b) :
    Calls Try.prog 48 #[.agg (arr a), .agg (arr b)] W fun e w' => e = .returned (.int .i64 (cmpK a b)) ∧ ∃ q os', w' = grow (W.drewN q) os' := by
  have HA : Hid (Ar ((W.alloc (.cells (arr a) 63)).alloc (.cells (arr b) 63)) W.heap.size a) := (Ar.new W a).later (below_alloc _)
  have hB := Ar.new (W.alloc (.cells (arr a) 63)) b
  rw [show (W.alloc (.cells (arr a) 63)).heap.size = W.heap.size + 1 by simp] at hB
  have HB : Hid (Ar ((W.alloc (.cells (arr a) 63)).alloc (.cells (arr b) 63)) (W.heap.size + 1) b) := hB
  have Ha : Hid (WfK a) := ha
  have Hb : Hid (WfK b) := hb
  have hlen : Try.prog.arrayLen 63 = 512 := by kernel_rfl
  clear hB ha hb
  go_enter Try.func48, Try.ntmps48
  go_wp2
  go_quiet ((go_at_call 49; exact Calls.quiet_of_same (bytesCompare_any (w := World.drewN _ _) HA.out HB.out Ha.out Hb.out)))
  go_wp2
  go_ret
  refine ⟨rfl, nq, #[.cells (arr a) 63, .cells (arr b) 63], ?_⟩
  rw [alloc_eq_grow, alloc_eq_grow, grow_grow]
  rfl

/-- A key's cells. -/
def cellsL (ks : List Nat) : List Value := ks.map fun (x : Nat) => Value.int .u8 (x : Int)

theorem arr_cells (ks : List Nat) : arr ks = (cellsL ks).toArray := rfl

theorem len_cellsL {ks : List Nat} (h : WfK ks) : (cellsL ks).length = 512 := by simp [cellsL, h.1]

/-- The slice value v is the call's own and holds the keys kss. -/
def OwK (w : World) (base : Nat) (v : Value) (kss : List (List Nat)) : Prop := w.ownsRow base 63 512 v kss.length (kss.flatMap cellsL)

theorem flat_get {kss : List (List Nat)} (hw : ∀ ks ∈ kss, WfK ks) : ∀ {i j : Nat} {ks : List Nat}, kss[i]? = some ks → j < 512 → (kss.flatMap cellsL)[i * 512 + j]? = (cellsL ks)[j]? := by
  induction kss with
  | nil => intro i j ks h; simp at h
  | cons a r ih =>
    intro i j ks h hj
    have hl := len_cellsL (hw a (by simp))
    rw [List.flatMap_cons]
    cases i with
    | zero =>
      simp only [List.getElem?_cons_zero, Option.some.injEq] at h
      subst h
      rw [Nat.zero_mul, Nat.zero_add, List.getElem?_append_left (by omega)]
    | succ i =>
      rw [List.getElem?_cons_succ] at h
      rw [List.getElem?_append_right (by rw [hl]; omega), hl, show (i + 1) * 512 + j - 512 = i * 512 + j by omega]
      exact ih (fun k hk => hw k (by simp [hk])) h hj

theorem flat_len {kss : List (List Nat)} (hw : ∀ ks ∈ kss, WfK ks) : (kss.flatMap cellsL).length = kss.length * 512 := by
  induction kss with
  | nil => rfl
  | cons a r ih =>
    rw [List.flatMap_cons, List.length_append, len_cellsL (hw a (by simp)), ih (fun k hk => hw k (by simp [hk])), List.length_cons]
    omega

def leK (a b : List Nat) : Bool := !decide (cmpK b a < 0)

/-- Keys as a type of their own. -/
abbrev KeyT := { ks : List Nat // WfK ks }

def encT (x : KeyT) : List Value := cellsL x.1

def cfT (x y : KeyT) : Int := cmpK x.1 y.1

theorem lt_of_cf (x y : KeyT) : ltOf cfT x y = decide (ltK x.1 y.1) := rfl

theorem swoT : SWO (ltOf cfT) where
  irrefl x := by rw [lt_of_cf]; exact decide_eq_false (ltK_irrefl _)
  trans x y z h1 h2 := by
    rw [lt_of_cf] at *
    exact decide_eq_true (ltK_trans (of_decide_eq_true h1) (of_decide_eq_true h2))
  ntrans x y z h1 h2 := by
    rw [lt_of_cf] at *
    have h1 := of_decide_eq_false h1
    have h2 := of_decide_eq_false h2
    refine decide_eq_false fun h => ?_
    by_cases e : x.1 = y.1
    · rw [e] at h; exact h2 h
    · exact h2 (ltK_trans (ltK_or e h1) h)

theorem totT (x y : KeyT) (h1 : ltOf cfT x y = false) (h2 : ltOf cfT y x = false) : x = y := by
  rw [lt_of_cf] at *
  have h1 := of_decide_eq_false h1
  have h2 := of_decide_eq_false h2
  apply Subtype.ext
  by_cases e : x.1 = y.1
  · exact e
  · exact absurd (ltK_or e h1) h2

theorem heap_putRow {α : Type} [Inhabited α] (enc : α → Value) (w : World) (blk off : Nat) (d : Array α) {cur : Array Value} {e : TypeId} {fr : Nat × Nat} (h : w.heap[blk]? = some (.cells cur e fr)) :
    (putRow enc w blk off d).heap[blk]? = some (.cells (putCells enc off d cur) e fr) := by
  unfold putRow mapBlock
  simp [Array.getElem?_modify, h, onCells]

theorem heap_putRow_other {α : Type} [Inhabited α] (enc : α → Value) (w : World) (blk off k : Nat) (d : Array α) (h : k ≠ blk) : (putRow enc w blk off d).heap[k]? = w.heap[k]? := by
  unfold putRow mapBlock
  simp only [Array.getElem?_modify]
  rw [if_neg (fun e => h e.symm)]

end Go.Proofs.Ytfifgmcjilkigab
