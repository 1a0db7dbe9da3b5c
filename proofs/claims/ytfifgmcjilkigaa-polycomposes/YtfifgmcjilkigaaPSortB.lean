/- Keys, sorted. -/
import Derived.Test.YtfifgmcjilkigaaPSortA
import Derived.Shelf.SlGeneric
import Derived.Ground.SlsfProg
namespace Go.Proofs
open Go.Shelf Go.RowKit Go.Lib Go.Sort

def Try.sortLay_ren : Go.Shelf.Ren := ⟨fun | 6 => 66 | 15 => 77 | 14 => 78 | 28 => 83 | 29 => 84 | 20 => 85 | 21 => 86 | 22 => 87 | 23 => 88 | 24 => 89 | 25 => 90 | 26 => 91 | 27 => 92 | 46 => 93 | 47 => 94 | 48 => 95 | 49 => 96 | 50 => 97 | 57 => 98 | n => n, fun | 22 => 76 | 24 => 70 | 25 => 80 | 3 => 3 | 39 => 88 | 0 => 0 | 53 => 43 | 55 => 87 | 4 => 4 | 46 => 99 | 45 => 98 | 50 => 103 | 5 => 5 | 9 => 9 | 66 => 105 | 70 => 109 | 76 => 111 | 77 => 112 | n => n, fun | n => n⟩
theorem Try.sortLay : Go.Proofs.SlLaysF0.n6 Try.prog Try.sortLay_ren := {
  mixed := by kernel_rfl
  f6 := ⟨Try.f66.name, by decide, Try.func66.trans (congrArg some (by kernel_rfl))⟩
  f14 := ⟨Try.f78.name, by decide, Try.func78.trans (congrArg some (by kernel_rfl))⟩
  f15 := Try.func77.trans (congrArg some (by kernel_rfl))
  f20 := ⟨Try.f85.name, by decide, Try.func85.trans (congrArg some (by kernel_rfl))⟩
  f21 := ⟨Try.f86.name, by decide, Try.func86.trans (congrArg some (by kernel_rfl))⟩
  f22 := ⟨Try.f87.name, by decide, Try.func87.trans (congrArg some (by kernel_rfl))⟩
  f23 := ⟨Try.f88.name, by decide, Try.func88.trans (congrArg some (by kernel_rfl))⟩
  f24 := ⟨Try.f89.name, by decide, Try.func89.trans (congrArg some (by kernel_rfl))⟩
  f25 := ⟨Try.f90.name, by decide, Try.func90.trans (congrArg some (by kernel_rfl))⟩
  f26 := ⟨Try.f91.name, by decide, Try.func91.trans (congrArg some (by kernel_rfl))⟩
  f27 := ⟨Try.f92.name, by decide, Try.func92.trans (congrArg some (by kernel_rfl))⟩
  f28 := Try.func83.trans (congrArg some (by kernel_rfl))
  f29 := Try.func84.trans (congrArg some (by kernel_rfl))
  f46 := ⟨Try.f93.name, by decide, Try.func93.trans (congrArg some (by kernel_rfl))⟩
  f47 := Try.func94.trans (congrArg some (by kernel_rfl))
  f48 := Try.func95.trans (congrArg some (by kernel_rfl))
  f49 := ⟨Try.f96.name, by decide, Try.func96.trans (congrArg some (by kernel_rfl))⟩
  f50 := ⟨Try.f97.name, by decide, Try.func97.trans (congrArg some (by kernel_rfl))⟩
  f57 := ⟨Try.f98.name, by decide, Try.func98.trans (congrArg some (by kernel_rfl))⟩
  t0 := Try.underlying0
  a0 := Try.isAgg0
  z0 := Try.sizeOf0
  v0 := Try.zeroValue0
  t3 := Try.underlying3
  a3 := Try.isAgg3
  z3 := Try.sizeOf3
  v3 := Try.zeroValue3
  t4 := Try.underlying4
  a4 := Try.isAgg4
  z4 := Try.sizeOf4
  v4 := Try.zeroValue4
  t5 := Try.underlying5
  a5 := Try.isAgg5
  z5 := Try.sizeOf5
  v5 := Try.zeroValue5
  t9 := Try.underlying9
  a9 := Try.isAgg9
  z9 := Try.sizeOf9
  v9 := Try.zeroValue9
  t22 := Try.underlying76
  a22 := Try.isAgg76
  z22 := Try.sizeOf76
  v22 := Try.zeroValue76
  t25 := Try.underlying80
  a25 := Try.isAgg80
  z25 := Try.sizeOf80
  v25 := Try.zeroValue80
  t39 := Try.underlying88
  a39 := Try.isAgg88
  z39 := Try.sizeOf88
  v39 := Try.zeroValue88
  t45 := Try.underlying98
  a45 := Try.isAgg98
  z45 := Try.sizeOf98
  v45 := Try.zeroValue98
  t46 := Try.underlying99
  a46 := Try.isAgg99
  z46 := Try.sizeOf99
  v46 := Try.zeroValue99
  t50 := Try.underlying103
  a50 := Try.isAgg103
  z50 := Try.sizeOf103
  v50 := Try.zeroValue103
  t53 := Try.underlying43
  a53 := Try.isAgg43
  z53 := Try.sizeOf43
  v53 := Try.zeroValue43
  t55 := Try.underlying87
  a55 := Try.isAgg87
  z55 := Try.sizeOf87
  v55 := Try.zeroValue87
  t66 := Try.underlying105
  a66 := Try.isAgg105
  z66 := Try.sizeOf105
  v66 := Try.zeroValue105
  t70 := Try.underlying109
  a70 := Try.isAgg109
  z70 := Try.sizeOf109
  v70 := Try.zeroValue109
  t76 := Try.underlying111
  a76 := Try.isAgg111
  z76 := Try.sizeOf111
  v76 := Try.zeroValue111
  t77 := Try.underlying112
  a77 := Try.isAgg112
  z77 := Try.sizeOf112
  v77 := Try.zeroValue112 }

end Go.Proofs

namespace Go.Proofs.Ytfifgmcjilkigaa
open Go.RowKit Go.Maps Go.Sort

set_option maxRecDepth 100000 in
set_option maxHeartbeats 800000 in
theorem closure_any (a b : List Nat) (W : World) (ha : WfK a) (hb : WfK b) :
    Calls Try.prog 67 #[.agg (arr a), .agg (arr b)] W fun e w' => e = .returned (.int .i64 (cmpK a b)) ∧ ∃ q os', w' = grow (W.drewN q) os' := by
  have HA : Hid (Ar ((W.alloc (.cells (arr a) 70)).alloc (.cells (arr b) 70)) W.heap.size a) := (Ar.new W a).later (below_alloc _)
  have hB := Ar.new (W.alloc (.cells (arr a) 70)) b
  rw [show (W.alloc (.cells (arr a) 70)).heap.size = W.heap.size + 1 by simp] at hB
  have HB : Hid (Ar ((W.alloc (.cells (arr a) 70)).alloc (.cells (arr b) 70)) (W.heap.size + 1) b) := hB
  have Ha : Hid (WfK a) := ha
  have Hb : Hid (WfK b) := hb
  have hlen : Try.prog.arrayLen 70 = 512 := by kernel_rfl
  clear hB ha hb
  go_enter Try.func67, Try.ntmps67
  go_wp2
  go_quiet ((go_at_call 68; exact Calls.quiet_of_same (bytesCompare_any (w := World.drewN _ _) HA.out HB.out Ha.out Hb.out)))
  go_wp2
  go_ret
  refine ⟨rfl, nq, #[.cells (arr a) 70, .cells (arr b) 70], ?_⟩
  rw [alloc_eq_grow, alloc_eq_grow, grow_grow]
  rfl

/-- A key's cells. -/
def cellsL (ks : List Nat) : List Value := ks.map fun (x : Nat) => Value.int .u8 (x : Int)

theorem arr_cells (ks : List Nat) : arr ks = (cellsL ks).toArray := rfl

theorem len_cellsL {ks : List Nat} (h : WfK ks) : (cellsL ks).length = 512 := by simp [cellsL, h.1]

/-- The slice value v is the call's own and holds the keys kss. -/
def OwK (w : World) (base : Nat) (v : Value) (kss : List (List Nat)) : Prop := w.ownsRow base 70 512 v kss.length (kss.flatMap cellsL)

theorem flat_get {kss : List (List Nat)} (hw : ∀ ks ∈ kss, WfK ks) : ∀ {i j : Nat} {ks : List Nat}, kss[i]? = some ks → j < 512 → (kss.flatMap cellsL)[i * 512 + j]? = (cellsL ks)[j]? := by
  induction kss with
  | nil => intro i j ks h; simp at h
  | cons a r ih =>
    intro i j ks h hj
    have hl := len_cellsL (hw a (by simp))
    rw [List.flatMap_cons]
    cases i with
    | zero =>
      simp only [List.getElem?_cons_zero, Option.some.injEq] at h
      subst h
      rw [Nat.zero_mul, Nat.zero_add, List.getElem?_append_left (by omega)]
    | succ i =>
      rw [List.getElem?_cons_succ] at h
      rw [List.getElem?_append_right (by rw [hl]; omega), hl, show (i + 1) * 512 + j - 512 = i * 512 + j by omega]
      exact ih (fun k hk => hw k (by simp [hk])) h hj

theorem flat_len {kss : List (List Nat)} (hw : ∀ ks ∈ kss, WfK ks) : (kss.flatMap cellsL).length = kss.length * 512 := by
  induction kss with
  | nil => rfl
  | cons a r ih =>
    rw [List.flatMap_cons, List.length_append, len_cellsL (hw a (by simp)), ih (fun k hk => hw k (by simp [hk])), List.length_cons]
    omega

def leK (a b : List Nat) : Bool := !decide (cmpK b a < 0)

/-- Keys as a type of their own. -/
abbrev KeyT := { ks : List Nat // WfK ks }

def encT (x : KeyT) : List Value := cellsL x.1

def cfT (x y : KeyT) : Int := cmpK x.1 y.1

theorem lt_of_cf (x y : KeyT) : ltOf cfT x y = decide (ltK x.1 y.1) := rfl

theorem swoT : SWO (ltOf cfT) where
  irrefl x := by rw [lt_of_cf]; exact decide_eq_false (ltK_irrefl _)
  trans x y z h1 h2 := by
    rw [lt_of_cf] at *
    exact decide_eq_true (ltK_trans (of_decide_eq_true h1) (of_decide_eq_true h2))
  ntrans x y z h1 h2 := by
    rw [lt_of_cf] at *
    have h1 := of_decide_eq_false h1
    have h2 := of_decide_eq_false h2
    refine decide_eq_false fun h => ?_
    by_cases e : x.1 = y.1
    · rw [e] at h; exact h2 h
    · exact h2 (ltK_trans (ltK_or e h1) h)

theorem totT (x y : KeyT) (h1 : ltOf cfT x y = false) (h2 : ltOf cfT y x = false) : x = y := by
  rw [lt_of_cf] at *
  have h1 := of_decide_eq_false h1
  have h2 := of_decide_eq_false h2
  apply Subtype.ext
  by_cases e : x.1 = y.1
  · exact e
  · exact absurd (ltK_or e h1) h2

theorem heap_putRow {α : Type} [Inhabited α] (enc : α → Value) (w : World) (blk off : Nat) (d : Array α) {cur : Array Value} {e : TypeId} {fr : Nat × Nat} (h : w.heap[blk]? = some (.cells cur e fr)) :
    (putRow enc w blk off d).heap[blk]? = some (.cells (putCells enc off d cur) e fr) := by
  unfold putRow mapBlock
  simp [Array.getElem?_modify, h, onCells]

theorem heap_putRow_other {α : Type} [Inhabited α] (enc : α → Value) (w : World) (blk off k : Nat) (d : Array α) (h : k ≠ blk) : (putRow enc w blk off d).heap[k]? = w.heap[k]? := by
  unfold putRow mapBlock
  simp only [Array.getElem?_modify]
  rw [if_neg (fun e => h e.symm)]

end Go.Proofs.Ytfifgmcjilkigaa
