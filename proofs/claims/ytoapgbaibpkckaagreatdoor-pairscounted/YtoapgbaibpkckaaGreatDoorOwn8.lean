/- Texts of the proof, one behind the other. -/
import Derived.Test.YtoapgbaibpkckaaGreatDoorOwn7
import Derived.Test.YtoapgbaibpkckaaGreatDoorOwn2
import Derived.Deep.LoopGhost
import Derived.Test.YtoapgbaibpkckaaGreatDoorOwn5
import Derived.Test.YtoapgbaibpkckaaGreatDoorOwn4
import Derived.Deep.Slices
import Derived.Test.YtoapgbaibpkckaaGreatDoorOwn3
import Derived.BigRegion
/- The nodes and classes of package unify in memory. -/
namespace Go.Proofs.YtoapgbaibpkckaaGreatDoor
open Go.RowKit Go.Maps Go.BigFrame

theorem cell_block6 {w w' : World} {g : Nat} (h : w'.heap[g]? = w.heap[g]?) (k : Nat) : w'.cell? ⟨g, k, none⟩ = w.cell? ⟨g, k, none⟩ := by
  simp only [World.cell?, h]

/-- A node in memory: its block, and its class's. -/
structure Nm where
  blk : Nat
  cls : Nat
  nd : Nd

def ndV (m : Nm) : Value := match m.nd with
  | .var _ => .iface 163 (.pointer (some ⟨m.blk, 0, none⟩))
  | .app _ _ => .iface 167 (.pointer (some ⟨m.blk, 0, none⟩))

def ndI (M : List Nm) (i : Nat) : Value := ((M[i]?).map ndV).getD .nilIface

def clA (M : List Nm) (i : Nat) : Option Addr := (M[i]?).map fun m => ⟨m.cls, 0, none⟩

def clV (M : List Nm) (i : Nat) : Value := .pointer (clA M i)

def inV (M : List Nm) (o : Option Nat) : Value := .pointer (o.bind (clA M))

/-- A node's own cells. -/
def NdAt (w : World) (T : Nat) (M : List Nm) (m : Nm) : Prop := match m.nd with
  | .var n => w.heap[m.blk]? = some (.cells #[.int .i64 n, .pointer (some ⟨m.cls, 0, none⟩)] 201)
  | .app c xs => ∃ ao cap, w.heap[m.blk]? = some (.cells #[.int .i64 c, .slice ao xs.length cap, .pointer (some ⟨m.cls, 0, none⟩)] 188) ∧ xs.length ≤ cap ∧ cap ≤ maxLen ∧ (xs = [] ∨ ∃ g off, ao = some ⟨g, off, none⟩ ∧ g < T ∧ (∀ m' ∈ M, m'.cls ≠ g) ∧ ∀ (k x : Nat), xs[k]? = some x → w.cell? ⟨g, off + k, none⟩ = some (ndI M x))

/-- A class's own cells. -/
def ClAt (w : World) (M : List Nm) (b : Nat) (o : Option Nat) (f : Nat) (n : Int) : Prop := ∃ k : Int, w.heap[b]? = some (.cells #[inV M o, .int .i64 k, ndI M f, .int .i64 n] 175)

/-- The nodes and their classes. -/
structure Bd6 (w : World) (B T : Nat) (M : List Nm) (into : Nat → Option Nat) (face : Nat → Nat) (cnt : Nat → Int) : Prop where
  inj : ∀ (i j : Nat) (m m' : Nm), M[i]? = some m → M[j]? = some m' → m.cls = m'.cls → i = j
  low : ∀ m ∈ M, (B ≤ m.cls ∧ m.cls < T) ∧ B ≤ m.blk ∧ m.blk < T
  apart : ∀ m ∈ M, ∀ m' ∈ M, m'.cls ≠ m.blk
  nds : ∀ m ∈ M, NdAt w T M m
  cls : ∀ (i : Nat) (m : Nm), M[i]? = some m → ClAt w M m.cls (into i) (face i) (cnt i)

/-- All but the classes' blocks is as it was. -/
structure Ch6 (M : List Nm) (w w' : World) : Prop where
  os : w'.os = w.os
  tape : w'.tape = w.tape
  output : w'.output = w.output
  size : w.heap.size ≤ w'.heap.size
  block : ∀ b, b < w.heap.size → (∀ m ∈ M, m.cls ≠ b) → w'.heap[b]? = w.heap[b]?

theorem Ch6.refl (M : List Nm) (w : World) : Ch6 M w w := ⟨rfl, rfl, rfl, Nat.le_refl _, fun _ _ _ => rfl⟩

theorem Ch6.trans {M : List Nm} {a b c : World} (h : Ch6 M a b) (k : Ch6 M b c) : Ch6 M a c :=
  ⟨k.os.trans h.os, k.tape.trans h.tape, k.output.trans h.output, Nat.le_trans h.size k.size, fun i hi hm => (k.block i (Nat.lt_of_lt_of_le hi h.size) hm).trans (h.block i hi hm)⟩

theorem Ch6.of_below {M : List Nm} {w w' : World} (h : Below w.heap.size w w') : Ch6 M w w' := ⟨h.os, h.tape, h.output, h.size, fun b hb _ => h.block b hb⟩

theorem Ch6.cell {M : List Nm} {w w' : World} (h : Ch6 M w w') {g o : Nat} {v : Value} (hg : ∀ m ∈ M, m.cls ≠ g) (hc : w.cell? ⟨g, o, none⟩ = some v) : w'.cell? ⟨g, o, none⟩ = some v :=
  (cell_block6 (h.block g (World.block_lt_of_cell? _ _ hc) hg) o).trans hc

theorem Ch6.below {M : List Nm} {w w' w0 : World} {B : Nat} (h : Ch6 M w w') (hl : ∀ m ∈ M, B ≤ m.cls) (hB : B ≤ w.heap.size) (hb : Below B w0 w) : Below B w0 w' :=
  ⟨h.os.trans hb.os, h.tape.trans hb.tape, h.output.trans hb.output, Nat.le_trans hb.size h.size, fun k hk => (h.block k (by omega) (fun m hm e => by have := hl m hm; omega)).trans (hb.block k hk)⟩

theorem NdAt.ch {w w' : World} {T : Nat} {M : List Nm} {m : Nm} (h : NdAt w T M m) (hc : Ch6 M w w') (ha : ∀ m' ∈ M, m'.cls ≠ m.blk) : NdAt w' T M m := by
  unfold NdAt at h ⊢
  split
  · rename_i n hn
    rw [hn] at h
    simp only at h
    exact (hc.block _ (Array.getElem?_eq_some_iff.1 h).1 ha).trans h
  · rename_i c xs hn
    rw [hn] at h
    simp only at h
    obtain ⟨ao, cap, h1, h2, h3, h4⟩ := h
    refine ⟨ao, cap, (hc.block _ (Array.getElem?_eq_some_iff.1 h1).1 ha).trans h1, h2, h3, ?_⟩
    rcases h4 with h4 | ⟨g, off, e, hgT, hg, hx⟩
    · exact .inl h4
    · exact .inr ⟨g, off, e, hgT, hg, fun k x hk => hc.cell hg (hx k x hk)⟩

theorem Bd6.ch {w w' : World} {B T : Nat} {M : List Nm} {into into' : Nat → Option Nat} {face face' : Nat → Nat} {cnt cnt' : Nat → Int} (h : Bd6 w B T M into face cnt) (hc : Ch6 M w w') (hcl : ∀ (i : Nat) (m : Nm), M[i]? = some m → ClAt w' M m.cls (into' i) (face' i) (cnt' i)) : Bd6 w' B T M into' face' cnt' :=
  ⟨h.inj, h.low, h.apart, fun m hm => (h.nds m hm).ch hc (fun m' hm' => h.apart m hm m' hm'), hcl⟩

theorem Bd6.later {w w' : World} {B T : Nat} {M : List Nm} {into : Nat → Option Nat} {face : Nat → Nat} {cnt : Nat → Int} (h : Bd6 w B T M into face cnt) (hb : Below w.heap.size w w') : Bd6 w' B T M into face cnt :=
  h.ch (.of_below hb) fun i m hm => by
    obtain ⟨k, hk⟩ := h.cls i m hm
    exact ⟨k, (hb.block _ (Array.getElem?_eq_some_iff.1 hk).1).trans hk⟩

/-- What stands above the board may change. -/
theorem Bd6.keep {w w' : World} {B T : Nat} {M : List Nm} {into : Nat → Option Nat} {face : Nat → Nat} {cnt : Nat → Int} (h : Bd6 w B T M into face cnt) (hb : ∀ b, b < T → w'.heap[b]? = w.heap[b]?) : Bd6 w' B T M into face cnt := by
  refine ⟨h.inj, h.low, h.apart, fun m hm => ?_, fun i m hm => ?_⟩
  · have h1 := h.nds m hm
    have h2 := (h.low m hm).2.2
    unfold NdAt at h1 ⊢
    split
    · rename_i n hn
      rw [hn] at h1
      simp only at h1
      exact (hb _ h2).trans h1
    · rename_i c xs hn
      rw [hn] at h1
      simp only at h1
      obtain ⟨ao, cap, g1, g2, g3, g4⟩ := h1
      refine ⟨ao, cap, (hb _ h2).trans g1, g2, g3, ?_⟩
      rcases g4 with g4 | ⟨g, off, e, hgT, hg, hx⟩
      · exact .inl g4
      · exact .inr ⟨g, off, e, hgT, hg, fun k x hk => (cell_block6 (hb g hgT) _).trans (hx k x hk)⟩
  · obtain ⟨k, hk⟩ := h.cls i m hm
    exact ⟨k, (hb _ (h.low m (List.mem_of_getElem? hm)).1.2).trans hk⟩

/-- One class's block written. -/
theorem Bd6.put {w w' : World} {B T : Nat} {M : List Nm} {into : Nat → Option Nat} {face : Nat → Nat} {cnt : Nat → Int} (h : Bd6 w B T M into face cnt) {j : Nat} {mj : Nm} (hj : M[j]? = some mj) {o : Option Nat} {f : Nat} {n : Int} (hg : w.grownBy w' (some mj.cls)) (hn : ClAt w' M mj.cls o f n) :
    Bd6 w' B T M (fun i => if i = j then o else into i) (fun i => if i = j then f else face i) (fun i => if i = j then n else cnt i) ∧ Ch6 M w w' := by
  have hch : Ch6 M w w' := ⟨hg.os, hg.tape, hg.output, hg.size, fun b hb hm => hg.block b hb (fun e => hm mj (List.mem_of_getElem? hj) (by cases e; rfl))⟩
  refine ⟨h.ch hch fun i m hm => ?_, hch⟩
  by_cases e : i = j
  · subst e
    rw [hm] at hj
    cases hj
    simp only [if_true]
    exact hn
  · simp only [if_neg e]
    obtain ⟨k, hk⟩ := h.cls i m hm
    exact ⟨k, (hg.block _ (Array.getElem?_eq_some_iff.1 hk).1 (fun e9 => e (h.inj i j m mj hm hj (Option.some.inj e9)))).trans hk⟩

/-- The ways to the classes' roots: each step goes to a greater rank. -/
def Fr6 (n : Nat) (into : Nat → Option Nat) (root rk : Nat → Nat) : Prop := ∀ i, i < n → (into i = none → root i = i) ∧ ∀ j, into i = some j → j < n ∧ rk i < rk j ∧ root j = root i

theorem rk_most (rk : Nat → Nat) : ∀ n i, i < n → rk i ≤ ((List.range n).map rk).sum
  | 0, i, h => by omega
  | n + 1, i, h => by
    rw [List.range_succ, List.map_append, List.sum_append]
    by_cases e : i = n
    · subst e
      simp
    · have := rk_most rk n i (by omega)
      omega

theorem Fr6.halve {n : Nat} {into : Nat → Option Nat} {root rk : Nat → Nat} (h : Fr6 n into root rk) {j k l : Nat} (hj : j < n) (h1 : into j = some k) (h2 : into k = some l) : Fr6 n (fun i => if i = j then some l else into i) root rk := fun i hi => by
  by_cases e : i = j
  · subst e
    simp only [if_true]
    obtain ⟨a1, a2, a3⟩ := (h i hi).2 k h1
    obtain ⟨b1, b2, b3⟩ := (h k a1).2 l h2
    exact ⟨fun h9 => (by cases h9), fun x hx => (by cases hx; exact ⟨b1, by omega, by rw [b3, a3]⟩)⟩
  · simp only [if_neg e]
    exact h i hi

theorem clA_eq {M : List Nm} {i : Nat} {m : Nm} (h : M[i]? = some m) : clA M i = some ⟨m.cls, 0, none⟩ := by unfold clA; rw [h]; rfl

theorem clV_eq {M : List Nm} {i : Nat} {m : Nm} (h : M[i]? = some m) : clV M i = .pointer (some ⟨m.cls, 0, none⟩) := by unfold clV; rw [clA_eq h]

theorem inV_some {M : List Nm} {i : Nat} {m : Nm} (h : M[i]? = some m) : inV M (some i) = .pointer (some ⟨m.cls, 0, none⟩) := by unfold inV; rw [show (some i).bind (clA M) = clA M i from rfl, clA_eq h]

theorem inV_none (M : List Nm) : inV M none = .pointer none := rfl

theorem if_self6 {α : Type} {f : Nat → α} {j : Nat} : (fun i => if i = j then f j else f i) = f := by
  funext i
  by_cases e : i = j
  · rw [if_pos e, e]
  · rw [if_neg e]

set_option maxRecDepth 100000 in
set_option maxHeartbeats 1600000 in
/-- The whole class. -/
theorem whole_any {w : World} {B T : Nat} {M : List Nm} {into : Nat → Option Nat} {face : Nat → Nat} {cnt : Nat → Int} {root rk : Nat → Nat} (hb : Bd6 w B T M into face cnt) (hf : Fr6 M.length into root rk) {i : Nat} (hi : i < M.length) :
    Calls Tryz.prog 180 #[clV M i] w fun e w' => ∃ into', e = .returned (clV M (root i)) ∧ root i < M.length ∧ Bd6 w' B T M into' face cnt ∧ Fr6 M.length into' root rk ∧ Ch6 M w w' := by
  obtain ⟨mi, hmi⟩ : ∃ m, M[i]? = some m := ⟨_, List.getElem?_eq_getElem hi⟩
  rw [clV_eq hmi]
  have HB := hid hb
  have HF := hid hf
  have HMi := hid hmi
  clear hb hf hmi
  go_enter Tryz.func180, Tryz.ntmps180
  go_wp2
  go_loopg [0] (((List.range M.length).map rk).sum) (fun g v wr => ∃ (j : Nat) (mj : Nm) (into' : Nat → Option Nat), v = .pointer (some ⟨mj.cls, 0, none⟩) ∧ M[j]? = some mj ∧ root j = root i ∧ ((List.range M.length).map rk).sum - rk j ≤ g ∧ Bd6 wr B T M into' face cnt ∧ Fr6 M.length into' root rk ∧ Ch6 M w wr)
  case atStart => exact ⟨i, mi, into, rfl, HMi.out, rfl, by omega, HB.out, HF.out, Ch6.refl _ _⟩
  case round =>
    obtain ⟨j, mj, into', rfl, hmj, hrj, hg, hb', hf', hch⟩ := hrel
    have hjl := (List.getElem?_eq_some_iff.1 hmj).1
    have HMj := hid hmj
    have HRj := hid hrj
    have HG := hid hg
    have HB' := hid hb'
    have HF' := hid hf'
    have HC := hid hch
    obtain ⟨kj, hkj⟩ := hb'.cls j mj hmj
    have hmost := rk_most rk M.length
    have HMo := hid hmost
    cases hin : into' j with
    | none =>
      rw [hin, inV_none] at hkj
      have x0 := cell_of_row _ _ 0 _ _ _ hkj
      simp only [List.getElem?_toArray, List.getElem?_cons_zero] at x0
      have HE : Hid (root i = j) := by
        show _ = _
        rw [← hrj]
        exact (hf' j hjl).1 hin
      clear hmj hrj hg hb' hf' hch hkj hmost hin
      go_wp2
      go_ret
      refine ⟨into', ?_, by rw [HE.out]; exact hjl, HB'.out, HF'.out, HC.out⟩
      rw [HE.out, clV_eq HMj.out]
      rfl
    | some k =>
      obtain ⟨f1, f2, f3⟩ := (hf' j hjl).2 k hin
      obtain ⟨mk, hmk⟩ : ∃ m, M[k]? = some m := ⟨_, List.getElem?_eq_getElem f1⟩
      obtain ⟨kk, hkk⟩ := hb'.cls k mk hmk
      rw [hin, inV_some hmk] at hkj
      have HKj := hid hkj
      have x0 := cell_of_row _ _ 0 _ _ _ hkj
      have z0 : wr.frozen? ⟨mj.cls, 0, none⟩ = false := frozen_of_row _ _ _ _ _ hkj
      simp only [List.getElem?_toArray, List.getElem?_cons_zero] at x0
      have HMk := hid hmk
      cases hin2 : into' k with
      | none =>
        rw [hin2, inV_none] at hkk
        have y0 := cell_of_row _ _ 0 _ _ _ hkk
        simp only [List.getElem?_toArray, List.getElem?_cons_zero] at y0
        have HR2 : Hid (root k = root i ∧ rk j < rk k) := ⟨f3.trans hrj, f2⟩
        clear hmj hrj hg hb' hf' hch hkj hkk hmost hin hin2 hmk f2 f3 z0
        go_wp2
        go_roundg (((List.range M.length).map rk).sum - rk k)
        case measure => have := HR2.out.2; have := HMo.out k f1; have := HG.out; omega
        case rel => exact ⟨k, mk, into', rfl, HMk.out, HR2.out.1, Nat.le_refl _, HB'.out, HF'.out, HC.out⟩
      | some l =>
        obtain ⟨g1, g2, g3⟩ := (hf' k f1).2 l hin2
        obtain ⟨ml, hml⟩ : ∃ m, M[l]? = some m := ⟨_, List.getElem?_eq_getElem g1⟩
        rw [hin2, inV_some hml] at hkk
        have y0 := cell_of_row _ _ 0 _ _ _ hkk
        simp only [List.getElem?_toArray, List.getElem?_cons_zero] at y0
        have HR2 : Hid (root l = root i ∧ rk j < rk l) := ⟨(g3.trans f3).trans hrj, by show _ < _; omega⟩
        obtain ⟨W, hW⟩ : ∃ X, X = wr.setCell ⟨mj.cls, 0, none⟩ (.pointer (some ⟨ml.cls, 0, none⟩)) := ⟨_, rfl⟩
        have hblk : W.heap[mj.cls]? = some (.cells #[.pointer (some ⟨ml.cls, 0, none⟩), .int .i64 kj, ndI M (face j), .int .i64 (cnt j)] 175) := by
          rw [hW]
          exact heap_setCell_same _ _ _ _ _ _ hkj
        obtain ⟨hbn, hcn⟩ := hb'.put hmj (o := some l) (f := face j) (n := cnt j) (w' := W) (by rw [hW]; exact set_grown _ _ _ _) ⟨kj, by rw [inV_some hml]; exact hblk⟩
        rw [if_self6, if_self6] at hbn
        have HBn := hid hbn
        have HCn := hid (hch.trans hcn)
        have HFn := hid (hf'.halve hjl hin hin2)
        have HMl := hid hml
        have q0 := cell_of_row _ _ 0 _ _ _ hblk
        simp only [List.getElem?_toArray, List.getElem?_cons_zero] at q0
        clear hmj hrj hg hb' hf' hch hkj hkk hmost hin hin2 hmk f2 f3 g2 g3 hml hbn hcn hblk
        go_upto_region 4 with fail
        rw [← hW]
        clear hW x0 y0 z0
        go_wp2
        go_roundg (((List.range M.length).map rk).sum - rk l)
        case measure => have := HR2.out.2; have := HMo.out l g1; have := HG.out; omega
        case rel => exact ⟨l, ml, _, rfl, HMl.out, HR2.out.1, Nat.le_refl _, HBn.out, HFn.out, HCn.out⟩

end Go.Proofs.YtoapgbaibpkckaaGreatDoor

/- Small functions of package unify walked. -/
namespace Go.Proofs.YtoapgbaibpkckaaGreatDoor
open Go.RowKit Go.Maps Go.BigFrame

theorem under_uvar : Tryz.prog.underlying 163 = some (.pointer 201) := by kernel_rfl

theorem under_uapp : Tryz.prog.underlying 167 = some (.pointer 188) := by kernel_rfl

theorem zero_uvar : (Tryz.prog.info? 163).map (·.zero) = some (some (.pointer none)) := by kernel_rfl

theorem as_uvar (v : Value) (xT : TypeId) (w : World) : (Instr.typeAssert (.iface 163 v) xT 163 true).run Tryz.prog w = .ok (.tuple #[v, .bool true]) w := by
  simp [Instr.typeAssert, run_underlying under_uvar, go_sem, Result.andThen]

theorem as_uapp (v : Value) (xT : TypeId) (w : World) : (Instr.typeAssert (.iface 167 v) xT 167 false).run Tryz.prog w = .ok v w := by
  simp [Instr.typeAssert, run_underlying under_uapp, go_sem, Result.andThen]

theorem as_unot (v : Value) (xT : TypeId) (w : World) : (Instr.typeAssert (.iface 167 v) xT 163 true).run Tryz.prog w = .ok (.tuple #[.pointer none, .bool false]) w := by
  obtain ⟨i, hi, hz⟩ : ∃ i, Tryz.prog.info? 163 = some i ∧ i.zero = some (.pointer none) := by
    have h := zero_uvar
    cases hi : Tryz.prog.info? 163 with
    | none => rw [hi] at h; cases h
    | some i => rw [hi] at h; exact ⟨i, rfl, by simpa using h⟩
  simp [Instr.typeAssert, run_underlying under_uvar, go_sem, Result.andThen, zeroValue, typeInfo, hi, hz]

theorem ndI_eq {M : List Nm} {i : Nat} {m : Nm} (h : M[i]? = some m) : ndI M i = ndV m := by unfold ndI; rw [h]; rfl

theorem ndI_var {M : List Nm} {i : Nat} {m : Nm} {n : Int} (h : M[i]? = some m) (hn : m.nd = .var n) : ndI M i = .iface 163 (.pointer (some ⟨m.blk, 0, none⟩)) := by
  rw [ndI_eq h]
  unfold ndV
  rw [hn]

theorem ndI_app {M : List Nm} {i : Nat} {m : Nm} {c : Int} {xs : List Nat} (h : M[i]? = some m) (hn : m.nd = .app c xs) : ndI M i = .iface 167 (.pointer (some ⟨m.blk, 0, none⟩)) := by
  rw [ndI_eq h]
  unfold ndV
  rw [hn]

theorem Bd6.var {w : World} {B T : Nat} {M : List Nm} {into : Nat → Option Nat} {face : Nat → Nat} {cnt : Nat → Int} (h : Bd6 w B T M into face cnt) {i : Nat} {m : Nm} {n : Int} (hm : M[i]? = some m) (hn : m.nd = .var n) : w.cell? ⟨m.blk, 0, none⟩ = some (.int .i64 n) ∧ w.cell? ⟨m.blk, 1, none⟩ = some (.pointer (some ⟨m.cls, 0, none⟩)) := by
  have h1 := h.nds m (List.mem_of_getElem? hm)
  unfold NdAt at h1
  rw [hn] at h1
  exact ⟨cell_of_row _ _ _ _ _ _ h1, cell_of_row _ _ _ _ _ _ h1⟩

theorem Bd6.app {w : World} {B T : Nat} {M : List Nm} {into : Nat → Option Nat} {face : Nat → Nat} {cnt : Nat → Int} (h : Bd6 w B T M into face cnt) {i : Nat} {m : Nm} {c : Int} {xs : List Nat} (hm : M[i]? = some m) (hn : m.nd = .app c xs) : ∃ ao cap, (w.cell? ⟨m.blk, 0, none⟩ = some (.int .i64 c) ∧ w.cell? ⟨m.blk, 1, none⟩ = some (.slice ao xs.length cap) ∧ w.cell? ⟨m.blk, 2, none⟩ = some (.pointer (some ⟨m.cls, 0, none⟩))) ∧ xs.length ≤ cap ∧ cap ≤ maxLen ∧ (xs = [] ∨ ∃ g off, ao = some ⟨g, off, none⟩ ∧ g < T ∧ (∀ m' ∈ M, m'.cls ≠ g) ∧ ∀ (k x : Nat), xs[k]? = some x → w.cell? ⟨g, off + k, none⟩ = some (ndI M x)) := by
  have h1 := h.nds m (List.mem_of_getElem? hm)
  unfold NdAt at h1
  rw [hn] at h1
  obtain ⟨ao, cap, h2, h3⟩ := h1
  exact ⟨ao, cap, ⟨cell_of_row _ _ _ _ _ _ h2, cell_of_row _ _ _ _ _ _ h2, cell_of_row _ _ _ _ _ _ h2⟩, h3⟩

theorem Bd6.clc {w : World} {B T : Nat} {M : List Nm} {into : Nat → Option Nat} {face : Nat → Nat} {cnt : Nat → Int} (h : Bd6 w B T M into face cnt) {i : Nat} {m : Nm} (hm : M[i]? = some m) : ∃ k : Int, w.heap[m.cls]? = some (.cells #[inV M (into i), .int .i64 k, ndI M (face i), .int .i64 (cnt i)] 175) ∧ w.cell? ⟨m.cls, 0, none⟩ = some (inV M (into i)) ∧ w.cell? ⟨m.cls, 1, none⟩ = some (.int .i64 k) ∧ w.cell? ⟨m.cls, 2, none⟩ = some (ndI M (face i)) ∧ w.cell? ⟨m.cls, 3, none⟩ = some (.int .i64 (cnt i)) := by
  obtain ⟨k, hk⟩ := h.cls i m hm
  exact ⟨k, hk, cell_of_row _ _ _ _ _ _ hk, cell_of_row _ _ _ _ _ _ hk, cell_of_row _ _ _ _ _ _ hk, cell_of_row _ _ _ _ _ _ hk⟩

/-- Whether a node is a variable. -/
def isVarN (M : List Nm) (i : Nat) : Bool := match (M[i]?).map Nm.nd with | some (.var _) => true | _ => false

set_option maxRecDepth 100000 in
theorem uIsVar_any (w : World) {M : List Nm} {i : Nat} (hi : i < M.length) :
    Calls Tryz.prog 160 #[ndI M i] w fun e w' => e = .returned (.bool (isVarN M i)) ∧ w' = w := by
  obtain ⟨m, hm⟩ : ∃ m, M[i]? = some m := ⟨_, List.getElem?_eq_getElem hi⟩
  cases hn : m.nd with
  | var n =>
    have hv : isVarN M i = true := by unfold isVarN; rw [hm]; simp [hn]
    rw [ndI_var hm hn, hv]
    have ha := as_uvar (.pointer (some ⟨m.blk, 0, none⟩))
    clear hm hn hv hi
    go_enter Tryz.func160, Tryz.ntmps160
    go_wp2
    go_ret
    exact ⟨rfl, rfl⟩
  | app c xs =>
    have hv : isVarN M i = false := by unfold isVarN; rw [hm]; simp [hn]
    rw [ndI_app hm hn, hv]
    have ha := as_unot (.pointer (some ⟨m.blk, 0, none⟩))
    clear hm hn hv hi
    go_enter Tryz.func160, Tryz.ntmps160
    go_wp2
    go_ret
    exact ⟨rfl, rfl⟩

set_option maxRecDepth 100000 in
theorem varClass_any {w : World} {B T : Nat} {M : List Nm} {into : Nat → Option Nat} {face : Nat → Nat} {cnt : Nat → Int} {root rk : Nat → Nat} (hb : Bd6 w B T M into face cnt) (hf : Fr6 M.length into root rk) {i : Nat} {m : Nm} {n : Int} (hm : M[i]? = some m) (hn : m.nd = .var n) :
    Calls Tryz.prog 179 #[.pointer (some ⟨m.blk, 0, none⟩)] w fun e w' => ∃ into', e = .returned (clV M (root i)) ∧ root i < M.length ∧ Bd6 w' B T M into' face cnt ∧ Fr6 M.length into' root rk ∧ Ch6 M w w' := by
  obtain ⟨x0, x1⟩ := hb.var hm hn
  have HW := hid (whole_any hb hf (List.getElem?_eq_some_iff.1 hm).1)
  rw [clV_eq hm] at HW
  clear hb hf hm hn x0
  go_enter Tryz.func179, Tryz.ntmps179
  go_wp2_with fail
  refine HW.out.mono ?_
  rintro e w1 ⟨into', rfl, h1, h2, h3, h4⟩
  have H := hid (And.intro h1 (And.intro h2 (And.intro h3 h4)))
  clear h1 h2 h3 h4 x1
  go_wp2
  go_ret
  exact ⟨into', rfl, H.out⟩

set_option maxRecDepth 100000 in
theorem appClass_any {w : World} {B T : Nat} {M : List Nm} {into : Nat → Option Nat} {face : Nat → Nat} {cnt : Nat → Int} {root rk : Nat → Nat} (hb : Bd6 w B T M into face cnt) (hf : Fr6 M.length into root rk) {i : Nat} {m : Nm} {c : Int} {xs : List Nat} (hm : M[i]? = some m) (hn : m.nd = .app c xs) :
    Calls Tryz.prog 181 #[.pointer (some ⟨m.blk, 0, none⟩)] w fun e w' => ∃ into', e = .returned (clV M (root i)) ∧ root i < M.length ∧ Bd6 w' B T M into' face cnt ∧ Fr6 M.length into' root rk ∧ Ch6 M w w' := by
  obtain ⟨ao, cap, ⟨_, _, x2⟩, _⟩ := hb.app hm hn
  have HW := hid (whole_any hb hf (List.getElem?_eq_some_iff.1 hm).1)
  rw [clV_eq hm] at HW
  clear hb hf hm hn
  go_enter Tryz.func181, Tryz.ntmps181
  go_wp2_with fail
  refine HW.out.mono ?_
  rintro e w1 ⟨into', rfl, h1, h2, h3, h4⟩
  have H := hid (And.intro h1 (And.intro h2 (And.intro h3 h4)))
  clear h1 h2 h3 h4 x2
  go_wp2
  go_ret
  exact ⟨into', rfl, H.out⟩

set_option maxRecDepth 100000 in
set_option maxHeartbeats 1600000 in
theorem faceOf_any {w : World} {B T : Nat} {M : List Nm} {into : Nat → Option Nat} {face : Nat → Nat} {cnt : Nat → Int} (hb : Bd6 w B T M into face cnt) {a b : Nat} (ha : a < M.length) (hbl : b < M.length) :
    Calls Tryz.prog 161 #[ndI M a, ndI M b] w fun e w' => e = .returned (ndI M (faceN (M.map Nm.nd) a b)) ∧ ∃ n, w' = w.drewN n := by
  obtain ⟨ma, hma⟩ : ∃ m, M[a]? = some m := ⟨_, List.getElem?_eq_getElem ha⟩
  obtain ⟨mb, hmb⟩ : ∃ m, M[b]? = some m := ⟨_, List.getElem?_eq_getElem hbl⟩
  have eA : (M.map Nm.nd)[a]? = some ma.nd := by rw [List.getElem?_map, hma]; rfl
  have eB : (M.map Nm.nd)[b]? = some mb.nd := by rw [List.getElem?_map, hmb]; rfl
  obtain ⟨F, hF⟩ : ∃ F, F = faceN (M.map Nm.nd) a b := ⟨_, rfl⟩
  rw [← hF]
  unfold faceN at hF
  rw [eA, eB] at hF
  cases hna : ma.nd with
  | app c xs =>
    rw [hna] at hF
    simp only at hF
    subst hF
    have h1 := as_unot (.pointer (some ⟨ma.blk, 0, none⟩))
    rw [ndI_app hma hna]
    obtain ⟨vb, hvb⟩ : ∃ v, v = ndI M b := ⟨_, rfl⟩
    rw [← hvb]
    clear hb ha hbl hma hmb eA eB hna hvb
    go_enter Tryz.func161, Tryz.ntmps161
    go_wp2
    go_ret
    exact ⟨rfl, 0, rfl⟩
  | var n =>
    have h1 := as_uvar (.pointer (some ⟨ma.blk, 0, none⟩))
    obtain ⟨y0, _⟩ := hb.var hma hna
    cases hnb : mb.nd with
    | app c xs =>
      rw [hna, hnb] at hF
      simp only at hF
      subst hF
      have h2 := as_unot (.pointer (some ⟨mb.blk, 0, none⟩))
      rw [ndI_var hma hna, ndI_app hmb hnb]
      clear hb ha hbl hma hmb eA eB hna hnb
      go_enter Tryz.func161, Tryz.ntmps161
      go_wp2
      go_quiet (fail)
      go_wp2
      go_ret
      exact ⟨rfl, _, rfl⟩
    | var k =>
      rw [hna, hnb] at hF
      simp only at hF
      have h2 := as_uvar (.pointer (some ⟨mb.blk, 0, none⟩))
      obtain ⟨q0, _⟩ := hb.var hmb hnb
      by_cases hlt : n < k
      · rw [if_pos hlt] at hF
        subst hF
        have hd : decide (n < k) = true := decide_eq_true hlt
        rw [ndI_var hma hna, ndI_var hmb hnb]
        clear hb ha hbl hma hmb eA eB hna hnb
        go_enter Tryz.func161, Tryz.ntmps161
        go_wp2
        go_quiet (fail)
        go_wp2
        go_ret
        exact ⟨rfl, _, rfl⟩
      · rw [if_neg hlt] at hF
        subst hF
        have hd : decide (n < k) = false := decide_eq_false hlt
        rw [ndI_var hma hna, ndI_var hmb hnb]
        clear hb ha hbl hma hmb eA eB hna hnb
        go_enter Tryz.func161, Tryz.ntmps161
        go_wp2
        go_quiet (fail)
        go_wp2
        go_ret
        exact ⟨rfl, _, rfl⟩

end Go.Proofs.YtoapgbaibpkckaaGreatDoor

/- Rows of pairs and rows of classes of package unify. -/
namespace Go.Proofs.YtoapgbaibpkckaaGreatDoor
open Go.RowKit Go.Maps Go.BigFrame

theorem info_pair6 : (Tryz.prog.info? 170).map (fun i => (i.zero, i.size, i.bytes)) = some (some (.agg #[.nilIface, .nilIface]), 2, 32) := by kernel_rfl
theorem under_pairs6 : Tryz.prog.underlying 171 = some (.slice 170) := by kernel_rfl

/-- A row of pairs of one's own. -/
def OwP6 (w : World) (base : Nat) (v : Value) (xs : List (Value × Value)) : Prop := w.ownsRow base 170 2 v xs.length (prC xs)

/-- Pairs joined to a row of pairs. -/
theorem join_pairs6 (ty : TypeId) {w : World} {base : Nat} {x : Value} {xs ys : List (Value × Value)} {ao : Option Addr} {cap : Nat} (ho : OwP6 w base x xs) (hr : ys = [] ∨ ∃ g off, ao = some ⟨g, off, none⟩ ∧ ∀ (j : Nat) (u : Value), (prC ys)[j]? = some u → w.cell? ⟨g, off + j, none⟩ = some u)
    (h1 : ∀ u ∈ prC ys, u.oneCell' = true) (hb : base ≤ w.heap.size) (hl : (xs.length + ys.length) * 32 ≤ 140737488355328) :
    ∃ v' w', (Builtin.append_ #[171, 171] ty #[x, .slice ao ys.length cap]).run Tryz.prog w = .ok v' w' ∧ OwP6 w' base v' (xs ++ ys) ∧ w.grownBy w' x.ownBlock ∧ (v'.ownBlock = x.ownBlock ∨ v'.ownBlock = some w.heap.size) := by
  obtain ⟨i0, hi, hz0, hz1, hz2⟩ := info_parts info_pair6
  have hshape : ∃ bo bc, x = .slice bo xs.length bc ∧ xs.length ≤ bc := by
    rcases ho.2 with ⟨h8, h9⟩ | ⟨g8, c8, cur8, h8, _, _, h9, _⟩
    · exact ⟨none, 0, by rw [h8, h9], by omega⟩
    · exact ⟨_, c8, h8, h9⟩
  by_cases h0 : ys = []
  · subst h0
    obtain ⟨bo, bc, rfl, hbc⟩ := hshape
    refine ⟨_, w, run_append_nothing w 171 171 ty 170 i0 under_pairs6 hi _ xs.length bc hbc _ ?_, by rw [List.append_nil]; exact ho, World.grownBy.refl _ _, .inl rfl⟩
    cases ao with
    | none => exact Src.ofNil w under_pairs6 _
    | some a => exact Src.ofSlice w under_pairs6 a 0 _ [] (by simp) (fun j u hj => (by simp at hj)) (fun u hu => (by simp at hu))
  · obtain ⟨g, off, rfl, hc⟩ : ∃ g off, ao = some ⟨g, off, none⟩ ∧ ∀ (j : Nat) (u : Value), (prC ys)[j]? = some u → w.cell? ⟨g, off + j, none⟩ = some u := by
      rcases hr with hr | hr
      · exact absurd hr h0
      · exact hr
    obtain ⟨v', w', hr, g2, g3, _, g5⟩ := run_append_own_at (P := Tryz.prog) w base 171 ty 170 i0 _ 2 32 under_pairs6 hi hz0 hz1 hz2 rfl (by decide) x xs.length (prC xs) ho ⟨g, off, none⟩ ys.length cap (prC ys) (prC_len ys)
      (fun j u hj => by rw [Addr.add_lit]; exact hc j u hj) h1 (by unfold maxLen; omega) (by omega) hb
    refine ⟨v', w', hr, ?_, g3, g5⟩
    unfold OwP6
    rw [List.length_append, prC_app]
    exact g2

theorem own_cutP6 {w : World} {base : Nat} {ao : Option Addr} {cap k : Nat} {xs : List (Value × Value)} (h : OwP6 w base (.slice ao xs.length cap) xs) (hk : k ≤ xs.length) : OwP6 w base (.slice ao k cap) (xs.take k) := by
  have h1 := h.1
  have hl : (xs.take k).length = k := by rw [List.length_take]; omega
  unfold OwP6
  rw [hl]
  refine ⟨by rw [prC_len, hl], ?_⟩
  rcases h.2 with ⟨hv, hn⟩ | ⟨g, cp, cur, hv, hb, hg, hc, hm, hs, ht⟩
  · simp only [Value.slice.injEq] at hv
    obtain ⟨rfl, _, rfl⟩ := hv
    obtain rfl : k = 0 := by omega
    exact .inl ⟨rfl, rfl⟩
  · simp only [Value.slice.injEq] at hv
    obtain ⟨rfl, _, rfl⟩ := hv
    refine .inr ⟨g, cap, cur, rfl, hb, hg, by omega, hm, hs, ?_⟩
    have e1 : prC (xs.take k) = (prC xs).take (k * 2) := by
      have e2 : prC xs = prC (xs.take k) ++ prC (xs.drop k) := by rw [← prC_app, List.take_append_drop]
      have e3 : (prC (xs.take k)).length = k * 2 := by rw [prC_len, hl]
      rw [e2, ← e3, List.take_left]
    rw [e1, ← ht, List.take_take, Nat.min_eq_left (by omega)]

/-- The last one of a row of pairs. -/
theorem own_lastP6 {w : World} {base : Nat} {v : Value} {xs : List (Value × Value)} {k : Nat} {p : Value × Value} (h : OwP6 w base v xs) (hk : xs[k]? = some p) : ∃ g cap, v = .slice (some ⟨g, 0, none⟩) xs.length cap ∧ base ≤ g ∧ xs.length ≤ cap ∧ cap ≤ 9223372036854775807 ∧ w.cell? ⟨g, k * 2, none⟩ = some p.1 ∧ w.cell? ⟨g, k * 2 + 1, none⟩ = some p.2 := by
  have hkl := (List.getElem?_eq_some_iff.1 hk).1
  obtain ⟨c1, c2⟩ := prC_at xs k p hk
  have hlen := prC_len xs
  rcases h.2 with ⟨_, hn⟩ | ⟨g, cp, cur, hv, hb, hg, hc, hm, hs, ht⟩
  · omega
  · subst hv
    unfold maxLen at hm
    refine ⟨g, cp, rfl, hb, hc, by omega, ?_, ?_⟩
    · rw [World.ownsRow.cellAt h (k * 2) (by omega)]
      exact c1
    · rw [World.ownsRow.cellAt h (k * 2 + 1) (by omega)]
      exact c2

theorem info_clp : (Tryz.prog.info? 139).map (fun i => (i.zero, i.size, i.bytes)) = some (some (.pointer none), 1, 8) := by kernel_rfl
theorem under_clps : Tryz.prog.underlying 177 = some (.slice 139) := by kernel_rfl

/-- A row of classes of one's own. -/
def OwC6 (w : World) (base : Nat) (M : List Nm) (v : Value) (xs : List Nat) : Prop := w.ownsRow base 139 1 v xs.length (xs.map (clV M))

/-- Classes joined to a row of classes. -/
theorem join_cls6 (ty : TypeId) {w : World} {base : Nat} {M : List Nm} {x : Value} {xs ys : List Nat} {ao : Option Addr} {cap : Nat} (ho : OwC6 w base M x xs) (hr : ys = [] ∨ ∃ g off, ao = some ⟨g, off, none⟩ ∧ ∀ (j y : Nat), ys[j]? = some y → w.cell? ⟨g, off + j, none⟩ = some (clV M y))
    (hb : base ≤ w.heap.size) (hl : (xs.length + ys.length) * 8 ≤ 140737488355328) :
    ∃ v' w', (Builtin.append_ #[177, 177] ty #[x, .slice ao ys.length cap]).run Tryz.prog w = .ok v' w' ∧ OwC6 w' base M v' (xs ++ ys) ∧ w.grownBy w' x.ownBlock ∧ (v'.ownBlock = x.ownBlock ∨ v'.ownBlock = some w.heap.size) := by
  obtain ⟨i0, hi, hz0, hz1, hz2⟩ := info_parts info_clp
  have hshape : ∃ bo bc, x = .slice bo xs.length bc ∧ xs.length ≤ bc := by
    rcases ho.2 with ⟨h8, h9⟩ | ⟨g8, c8, cur8, h8, _, _, h9, _⟩
    · exact ⟨none, 0, by rw [h8, h9], by omega⟩
    · exact ⟨_, c8, h8, h9⟩
  by_cases h0 : ys = []
  · subst h0
    obtain ⟨bo, bc, rfl, hbc⟩ := hshape
    refine ⟨_, w, run_append_nothing w 177 177 ty 139 i0 under_clps hi _ xs.length bc hbc _ ?_, by rw [List.append_nil]; exact ho, World.grownBy.refl _ _, .inl rfl⟩
    cases ao with
    | none => exact Src.ofNil w under_clps _
    | some a => exact Src.ofSlice w under_clps a 0 _ [] (by simp) (fun j u hj => (by simp at hj)) (fun u hu => (by simp at hu))
  · obtain ⟨g, off, rfl, hc⟩ : ∃ g off, ao = some ⟨g, off, none⟩ ∧ ∀ (j y : Nat), ys[j]? = some y → w.cell? ⟨g, off + j, none⟩ = some (clV M y) := by
      rcases hr with hr | hr
      · exact absurd hr h0
      · exact hr
    obtain ⟨v', w', hr, g2, g3, _, g5⟩ := run_append_own_at (P := Tryz.prog) w base 177 ty 139 i0 _ 1 8 under_clps hi hz0 hz1 hz2 rfl (by decide) x xs.length (xs.map (clV M)) ho ⟨g, off, none⟩ ys.length cap (ys.map (clV M)) (by rw [List.length_map, Nat.mul_one])
      (fun j u hj => by
        rw [Addr.add_lit]
        rw [List.getElem?_map] at hj
        cases hy : ys[j]? with
        | none => rw [hy] at hj; cases hj
        | some y =>
          rw [hy] at hj
          cases hj
          exact hc j y hy) (fun u hu => by obtain ⟨y, _, rfl⟩ := List.mem_map.1 hu; rfl) (by unfold maxLen; omega) (by omega) hb
    refine ⟨v', w', hr, ?_, g3, g5⟩
    unfold OwC6
    rw [List.length_append, List.map_append]
    exact g2

theorem OwC6.shape {w : World} {base : Nat} {M : List Nm} {v : Value} {xs : List Nat} (h : OwC6 w base M v xs) : ∃ ao cap, v = .slice ao xs.length cap ∧ xs.length ≤ cap ∧ cap ≤ maxLen := by
  rcases h.2 with ⟨rfl, hn⟩ | ⟨g, cap, cur, rfl, hb, hg, hc, hm, hs, ht⟩
  · exact ⟨none, 0, by rw [hn], by omega, by simp [maxLen]⟩
  · exact ⟨_, cap, rfl, hc, hm⟩

theorem own_cut6 {w : World} {base : Nat} {M : List Nm} {ao : Option Addr} {cap k : Nat} {xs : List Nat} (h : OwC6 w base M (.slice ao xs.length cap) xs) (hk : k ≤ xs.length) : OwC6 w base M (.slice ao k cap) (xs.take k) := by
  have h1 := h.1
  have hl : (xs.take k).length = k := by rw [List.length_take]; omega
  unfold OwC6
  rw [hl]
  refine ⟨by rw [List.length_map, hl, Nat.mul_one], ?_⟩
  rcases h.2 with ⟨hv, hn⟩ | ⟨g, cp, cur, hv, hb, hg, hc, hm, hs, ht⟩
  · simp only [Value.slice.injEq] at hv
    obtain ⟨rfl, _, rfl⟩ := hv
    obtain rfl : k = 0 := by omega
    exact .inl ⟨rfl, rfl⟩
  · simp only [Value.slice.injEq] at hv
    obtain ⟨rfl, _, rfl⟩ := hv
    refine .inr ⟨g, cap, cur, rfl, hb, hg, by omega, hm, hs, ?_⟩
    rw [List.map_take, ← ht, List.take_take, Nat.mul_one, Nat.mul_one, Nat.min_eq_left hk]

theorem own_last6 {w : World} {base : Nat} {M : List Nm} {v : Value} {xs : List Nat} {k x : Nat} (h : OwC6 w base M v xs) (hk : xs[k]? = some x) : ∃ g cap, v = .slice (some ⟨g, 0, none⟩) xs.length cap ∧ base ≤ g ∧ xs.length ≤ cap ∧ cap ≤ 9223372036854775807 ∧ w.cell? ⟨g, k, none⟩ = some (clV M x) := by
  have hkl := (List.getElem?_eq_some_iff.1 hk).1
  rcases h.2 with ⟨_, hn⟩ | ⟨g, cp, cur, hv, hb, hg, hc, hm, hs, ht⟩
  · omega
  · subst hv
    unfold maxLen at hm
    refine ⟨g, cp, rfl, hb, hc, by omega, ?_⟩
    rw [World.ownsRow.cellAt h k (by rw [Nat.mul_one]; exact hkl), List.getElem?_map, hk]
    rfl

/-- A row of one's own is kept where classes alone are written. -/
theorem own_ch6 {w w' : World} {base : Nat} {e : TypeId} {s n : Nat} {v : Value} {xs : List Value} {M : List Nm} (h : w.ownsRow base e s v n xs) (hc : Ch6 M w w') (hm : ∀ m ∈ M, m.cls < base) : w'.ownsRow base e s v n xs := by
  refine ⟨h.1, ?_⟩
  rcases h.2 with h | ⟨g, cap, cur, hv, hb, hg, r⟩
  · exact .inl h
  · exact .inr ⟨g, cap, cur, hv, hb, (hc.block g (Array.getElem?_eq_some_iff.1 hg).1 (fun m hm' e => by have := hm m hm'; omega)).trans hg, r⟩

theorem own_grown6 {w w' : World} {base : Nat} {e : TypeId} {s n : Nat} {v : Value} {xs : List Value} {row : Option Nat} (h : w.ownsRow base e s v n xs) (hg : w.grownBy w' row) (hr : v.ownBlock = none ∨ v.ownBlock ≠ row) : w'.ownsRow base e s v n xs := by
  refine ⟨h.1, ?_⟩
  rcases h.2 with h | ⟨g, cap, cur, rfl, hb, hgg, r⟩
  · exact .inl h
  · refine .inr ⟨g, cap, cur, rfl, hb, (hg.block g (Array.getElem?_eq_some_iff.1 hgg).1 ?_).trans hgg, r⟩
    rcases hr with hr | hr
    · cases hr
    · exact hr

end Go.Proofs.YtoapgbaibpkckaaGreatDoor

/- take of package unify walked. -/
namespace Go.Proofs.YtoapgbaibpkckaaGreatDoor
open Go.RowKit Go.Maps Go.BigFrame

theorem ndI_form {M : List Nm} {i : Nat} (h : i < M.length) : ∃ ty b, ndI M i = .iface ty (.pointer (some ⟨b, 0, none⟩)) := by
  have e : M[i]? = some M[i] := List.getElem?_eq_getElem h
  rw [ndI_eq e]
  unfold ndV
  split
  · exact ⟨_, _, rfl⟩
  · exact ⟨_, _, rfl⟩

theorem if_self7 {f : Nat → Option Nat} {j d : Nat} {o : Option Nat} : (fun i => if i = j then (if j = d then o else f j) else if i = d then o else f i) = fun i => if i = d then o else f i := by
  funext i
  by_cases e : i = j
  · rw [if_pos e, e]
  · rw [if_neg e]

theorem faceN_lt {M : List Nm} {a b : Nat} (ha : a < M.length) (hb : b < M.length) : faceN (M.map Nm.nd) a b < M.length := by
  rcases uni_face (M.map Nm.nd) a b with h | h <;> rw [h] <;> assumption

set_option maxRecDepth 100000 in
set_option maxHeartbeats 3200000 in
theorem take_any {w : World} {B T : Nat} {M : List Nm} {into : Nat → Option Nat} {face : Nat → Nat} {cnt : Nat → Int} (hb : Bd6 w B T M into face cnt) {c d : Nat} {mc md : Nm} (hmc : M[c]? = some mc) (hmd : M[d]? = some md) (_hne : c ≠ d) (hfc : face c < M.length) (hfd : face d < M.length) :
    Calls Tryz.prog 145 #[.pointer (some ⟨mc.cls, 0, none⟩), .pointer (some ⟨md.cls, 0, none⟩)] w fun e w' => e = .returned (.tuple #[]) ∧ ∃ c' d', ((c' = c ∧ d' = d) ∨ (c' = d ∧ d' = c)) ∧ Bd6 w' B T M (fun i => if i = d' then some c' else into i) (fun i => if i = c' then faceN (M.map Nm.nd) (face c') (face d') else face i) cnt ∧ Ch6 M w w' := by
  have HB := hid hb
  have HMc := hid hmc
  have HMd := hid hmd
  obtain ⟨kc, _, _, xc1, _, _⟩ := hb.clc hmc
  obtain ⟨kd, _, _, xd1, _, _⟩ := hb.clc hmd
  clear hb hmc hmd
  by_cases hlt : kc < kd
  · have hdl : decide (kc < kd) = true := decide_eq_true hlt
    clear hlt
    go_enter Tryz.func145, Tryz.ntmps145
    go_wp2
    go_quiet (fail)
    have J1 := hid (drawn_below (w := w) (n := nq) rfl)
    obtain ⟨w1, hw1⟩ : ∃ X, X = w.drewN nq := ⟨_, rfl⟩
    rw [← hw1] at J1
    go_upto_region 2 with fail
    rw [← hw1]
    clear hw1
    have hb1 := HB.out.later J1.out
    obtain ⟨kD, hkD, _, _, _, _⟩ := hb1.clc HMc.out
    have z0 : w1.cell? ⟨mc.cls, 0, none⟩ = some (inV M (into c)) := cell_of_row _ _ _ _ _ _ hkD
    have f0 : w1.frozen? ⟨mc.cls, 0, none⟩ = false := frozen_of_row _ _ _ _ _ hkD
    obtain ⟨W2, hW2⟩ : ∃ X, X = w1.setCell ⟨mc.cls, 0, none⟩ (.pointer (some ⟨md.cls, 0, none⟩)) := ⟨_, rfl⟩
    obtain ⟨hb2, hc2⟩ := hb1.put HMc.out (o := some d) (f := face c) (n := cnt c) (w' := W2) (by rw [hW2]; exact set_grown _ _ _ _) ⟨kD, by rw [hW2, inV_some HMd.out]; exact heap_setCell_same _ _ _ _ _ _ hkD⟩
    rw [if_self6, if_self6] at hb2
    have HC2 := hid ((Ch6.of_below J1.out).trans hc2)
    obtain ⟨kC2, hkC2, _, s1, _, _⟩ := hb2.clc HMd.out
    obtain ⟨kD2, hkD2, _, t1, _, _⟩ := hb2.clc HMc.out
    have f1 : W2.frozen? ⟨md.cls, 1, none⟩ = false := frozen_of_row _ _ _ _ _ hkC2
    have HB2 := hid hb2
    have HK2 := hid hkC2
    unfold inV at z0
    clear hb1 hkD hb2 hc2 hkC2 hkD2 xc1 xd1 hdl
    go_upto_region 3 with fail
    rw [← hW2]
    clear hW2 z0 f0
    go_region
    obtain ⟨W3, hW3⟩ : ∃ X, X = (W2.setCell ⟨md.cls, 1, none⟩ (.int .i64 (wrap64 (kC2 + kD2)))).drew := ⟨_, rfl⟩
    rw [← hW3]
    have hk3 : W3.heap[md.cls]? = some (.cells #[inV M (if d = c then some d else into d), .int .i64 (wrap64 (kC2 + kD2)), ndI M (face d), .int .i64 (cnt d)] 175) := by
      rw [hW3]
      show (World.setCell _ _ _).heap[md.cls]? = _
      exact heap_setCell_same _ _ _ _ _ _ HK2.out
    obtain ⟨hb3, hc3⟩ := HB2.out.put HMd.out (o := if d = c then some d else into d) (f := face d) (n := cnt d) (w' := W3) (by rw [hW3]; exact grown_trans (set_grown _ _ _ _) (grown_of_below (drawn_below1 _) _)) ⟨_, hk3⟩
    rw [if_self6, if_self6, if_self7] at hb3
    have HB3 := hid hb3
    have HC3 := hid (HC2.out.trans hc3)
    obtain ⟨kC3, hkC3, _, _, s2, _⟩ := hb3.clc HMd.out
    obtain ⟨kD3, hkD3, _, _, t2, _⟩ := hb3.clc HMc.out
    have HK3 := hid hkC3
    obtain ⟨ty, bF, hF⟩ := ndI_form (faceN_lt (M := M) hfd hfc)
    have HFo := hid (faceOf_any (hb3.later (drawn_below1 W3)) hfd hfc)
    rw [hF] at HFo
    have HFe := hid hF
    have f2 : W3.frozen? ⟨md.cls, 2, none⟩ = false := frozen_of_row _ _ _ _ _ hkC3
    have HDone : Hid (∀ k : Nat, Bd6 ((W3.drewN k).setCell ⟨md.cls, 2, none⟩ (.iface ty (.pointer (some ⟨bF, 0, none⟩)))) B T M (fun i => if i = c then some d else into i) (fun i => if i = d then faceN (M.map Nm.nd) (face d) (face c) else face i) cnt ∧ Ch6 M w ((W3.drewN k).setCell ⟨md.cls, 2, none⟩ (.iface ty (.pointer (some ⟨bF, 0, none⟩))))) := fun k => by
      have hd4 : Below W3.heap.size W3 (W3.drewN k) := drawn_below rfl
      have hb4 := HB3.out.later hd4
      have hk4 : (W3.drewN k).heap[md.cls]? = some (.cells #[inV M (if d = c then some d else into d), .int .i64 kC3, ndI M (face d), .int .i64 (cnt d)] 175) := (hd4.block _ (Array.getElem?_eq_some_iff.1 HK3.out).1).trans HK3.out
      obtain ⟨hb5, hc5⟩ := hb4.put HMd.out (o := if d = c then some d else into d) (f := faceN (M.map Nm.nd) (face d) (face c)) (n := cnt d) (w' := (W3.drewN k).setCell ⟨md.cls, 2, none⟩ (.iface ty (.pointer (some ⟨bF, 0, none⟩)))) (set_grown _ _ _ _) ⟨kC3, by rw [hF]; exact heap_setCell_same _ _ _ _ _ _ hk4⟩
      rw [if_self6, if_self7] at hb5
      exact ⟨hb5, (HC3.out.trans (Ch6.of_below hd4)).trans hc5⟩
    clear hW3 hk3 hb3 hc3 hkC3 hkD3 s1 t1 f1 hF
    go_upto_region 4 with fail
    go_region_with (first
      | (refine HFo.out.mono ?_; rintro e w4 ⟨rfl, n4, hw4⟩; subst hw4))
    all_goals (
      go_wp2
      go_end0
      exact ⟨rfl, d, c, .inr ⟨rfl, rfl⟩, (HDone.out _).1, (HDone.out _).2⟩)
  · have hdl : decide (kc < kd) = false := decide_eq_false hlt
    clear hlt
    go_enter Tryz.func145, Tryz.ntmps145
    go_wp2
    go_quiet (fail)
    have J1 := hid (drawn_below (w := w) (n := nq) rfl)
    obtain ⟨w1, hw1⟩ : ∃ X, X = w.drewN nq := ⟨_, rfl⟩
    rw [← hw1] at J1
    go_upto_region 2 with fail
    rw [← hw1]
    clear hw1
    have hb1 := HB.out.later J1.out
    obtain ⟨kD, hkD, _, _, _, _⟩ := hb1.clc HMd.out
    have z0 : w1.cell? ⟨md.cls, 0, none⟩ = some (inV M (into d)) := cell_of_row _ _ _ _ _ _ hkD
    have f0 : w1.frozen? ⟨md.cls, 0, none⟩ = false := frozen_of_row _ _ _ _ _ hkD
    obtain ⟨W2, hW2⟩ : ∃ X, X = w1.setCell ⟨md.cls, 0, none⟩ (.pointer (some ⟨mc.cls, 0, none⟩)) := ⟨_, rfl⟩
    obtain ⟨hb2, hc2⟩ := hb1.put HMd.out (o := some c) (f := face d) (n := cnt d) (w' := W2) (by rw [hW2]; exact set_grown _ _ _ _) ⟨kD, by rw [hW2, inV_some HMc.out]; exact heap_setCell_same _ _ _ _ _ _ hkD⟩
    rw [if_self6, if_self6] at hb2
    have HC2 := hid ((Ch6.of_below J1.out).trans hc2)
    obtain ⟨kC2, hkC2, _, s1, _, _⟩ := hb2.clc HMc.out
    obtain ⟨kD2, hkD2, _, t1, _, _⟩ := hb2.clc HMd.out
    have f1 : W2.frozen? ⟨mc.cls, 1, none⟩ = false := frozen_of_row _ _ _ _ _ hkC2
    have HB2 := hid hb2
    have HK2 := hid hkC2
    unfold inV at z0
    clear hb1 hkD hb2 hc2 hkC2 hkD2 xc1 xd1 hdl
    go_upto_region 3 with fail
    rw [← hW2]
    clear hW2 z0 f0
    go_region
    obtain ⟨W3, hW3⟩ : ∃ X, X = (W2.setCell ⟨mc.cls, 1, none⟩ (.int .i64 (wrap64 (kC2 + kD2)))).drew := ⟨_, rfl⟩
    rw [← hW3]
    have hk3 : W3.heap[mc.cls]? = some (.cells #[inV M (if c = d then some c else into c), .int .i64 (wrap64 (kC2 + kD2)), ndI M (face c), .int .i64 (cnt c)] 175) := by
      rw [hW3]
      show (World.setCell _ _ _).heap[mc.cls]? = _
      exact heap_setCell_same _ _ _ _ _ _ HK2.out
    obtain ⟨hb3, hc3⟩ := HB2.out.put HMc.out (o := if c = d then some c else into c) (f := face c) (n := cnt c) (w' := W3) (by rw [hW3]; exact grown_trans (set_grown _ _ _ _) (grown_of_below (drawn_below1 _) _)) ⟨_, hk3⟩
    rw [if_self6, if_self6, if_self7] at hb3
    have HB3 := hid hb3
    have HC3 := hid (HC2.out.trans hc3)
    obtain ⟨kC3, hkC3, _, _, s2, _⟩ := hb3.clc HMc.out
    obtain ⟨kD3, hkD3, _, _, t2, _⟩ := hb3.clc HMd.out
    have HK3 := hid hkC3
    obtain ⟨ty, bF, hF⟩ := ndI_form (faceN_lt (M := M) hfc hfd)
    have HFo := hid (faceOf_any (hb3.later (drawn_below1 W3)) hfc hfd)
    rw [hF] at HFo
    have HFe := hid hF
    have f2 : W3.frozen? ⟨mc.cls, 2, none⟩ = false := frozen_of_row _ _ _ _ _ hkC3
    have HDone : Hid (∀ k : Nat, Bd6 ((W3.drewN k).setCell ⟨mc.cls, 2, none⟩ (.iface ty (.pointer (some ⟨bF, 0, none⟩)))) B T M (fun i => if i = d then some c else into i) (fun i => if i = c then faceN (M.map Nm.nd) (face c) (face d) else face i) cnt ∧ Ch6 M w ((W3.drewN k).setCell ⟨mc.cls, 2, none⟩ (.iface ty (.pointer (some ⟨bF, 0, none⟩))))) := fun k => by
      have hd4 : Below W3.heap.size W3 (W3.drewN k) := drawn_below rfl
      have hb4 := HB3.out.later hd4
      have hk4 : (W3.drewN k).heap[mc.cls]? = some (.cells #[inV M (if c = d then some c else into c), .int .i64 kC3, ndI M (face c), .int .i64 (cnt c)] 175) := (hd4.block _ (Array.getElem?_eq_some_iff.1 HK3.out).1).trans HK3.out
      obtain ⟨hb5, hc5⟩ := hb4.put HMc.out (o := if c = d then some c else into c) (f := faceN (M.map Nm.nd) (face c) (face d)) (n := cnt c) (w' := (W3.drewN k).setCell ⟨mc.cls, 2, none⟩ (.iface ty (.pointer (some ⟨bF, 0, none⟩)))) (set_grown _ _ _ _) ⟨kC3, by rw [hF]; exact heap_setCell_same _ _ _ _ _ _ hk4⟩
      rw [if_self6, if_self7] at hb5
      exact ⟨hb5, (HC3.out.trans (Ch6.of_below hd4)).trans hc5⟩
    clear hW3 hk3 hb3 hc3 hkC3 hkD3 s1 t1 f1 hF
    go_upto_region 4 with fail
    go_region_with (first
      | (refine HFo.out.mono ?_; rintro e w4 ⟨rfl, n4, hw4⟩; subst hw4))
    all_goals (
      go_wp2
      go_end0
      exact ⟨rfl, c, d, .inl ⟨rfl, rfl⟩, (HDone.out _).1, (HDone.out _).2⟩)

end Go.Proofs.YtoapgbaibpkckaaGreatDoor

/- parts of package unify walked. -/
namespace Go.Proofs.YtoapgbaibpkckaaGreatDoor
open Go.RowKit Go.Maps Go.BigFrame

/-- The classes of a node's arguments. -/
def ptsN (M : List Nm) (root : Nat → Nat) (f : Nat) : List Nat := match (M[f]?).map Nm.nd with | some (.app _ xs) => xs.map root | _ => []

set_option maxRecDepth 100000 in
set_option maxHeartbeats 3200000 in
theorem parts_any {w : World} {B T : Nat} {M : List Nm} {into : Nat → Option Nat} {face : Nat → Nat} {cnt : Nat → Int} {root rk : Nat → Nat} (hb : Bd6 w B T M into face cnt) (hf : Fr6 M.length into root rk) (hlow : T ≤ w.heap.size) (hwf : ∀ (i : Nat) (m : Nm) (c : Int) (xs : List Nat), M[i]? = some m → m.nd = .app c xs → (∀ x ∈ xs, x < M.length) ∧ xs.length ≤ 1000)
    {i : Nat} {mi : Nm} (hmi : M[i]? = some mi) (hfl : face i < M.length) :
    Calls Tryz.prog 147 #[.pointer (some ⟨mi.cls, 0, none⟩)] w fun e w' => ∃ v' into', e = .returned v' ∧ OwC6 w' w.heap.size M v' (ptsN M root (face i)) ∧ Bd6 w' B T M into' face cnt ∧ Fr6 M.length into' root rk ∧ Ch6 M w w' := by
  obtain ⟨mf, hmf⟩ : ∃ m, M[face i]? = some m := ⟨_, List.getElem?_eq_getElem hfl⟩
  obtain ⟨k9, _, _, _, x2, _⟩ := hb.clc hmi
  have HB := hid hb
  have HF := hid hf
  have HLo := hid hlow
  have HWf := hid hwf
  have HMf := hid hmf
  have HIs := hid (uIsVar_any w hfl)
  obtain ⟨P, hP⟩ : ∃ P, P = ptsN M root (face i) := ⟨_, rfl⟩
  rw [← hP]
  unfold ptsN at hP
  rw [hmf] at hP
  simp only [Option.map_some] at hP
  unfold isVarN at HIs
  rw [hmf] at HIs
  simp only [Option.map_some] at HIs
  cases hn : mf.nd with
  | var n =>
    rw [hn] at hP HIs
    simp only at hP HIs
    rw [ndI_var hmf hn] at x2 HIs
    subst hP
    clear hb hf hlow hwf hmi hfl hmf hn
    go_enter Tryz.func147, Tryz.ntmps147
    go_wp2_with fail
    refine HIs.out.mono ?_
    rintro e w1 ⟨rfl, hw1⟩
    have hw8 := hw1.symm
    subst hw8
    clear hw1
    go_wp2
    go_ret
    exact ⟨_, into, rfl, ⟨rfl, .inl ⟨rfl, rfl⟩⟩, HB.out, HF.out, Ch6.refl _ _⟩
  | app c xs =>
    rw [hn] at hP HIs
    simp only at hP HIs
    rw [ndI_app hmf hn] at x2 HIs
    obtain ⟨ao, cap, ⟨_, y1, _⟩, hcap1, hcap2, hargs⟩ := hb.app hmf hn
    unfold maxLen at hcap2
    obtain ⟨hx1, hx2⟩ := hwf _ _ _ _ hmf hn
    have HX1 := hid hx1
    have HArg := hid hargs
    have HPe := hid hP
    have ha := as_uapp (.pointer (some ⟨mf.blk, 0, none⟩))
    clear hb hf hlow hwf hmi hfl hmf hn hargs hP hx1
    go_enter Tryz.func147, Tryz.ntmps147
    go_wp2_with fail
    refine HIs.out.mono ?_
    rintro e w1 ⟨rfl, hw1⟩
    have hw8 := hw1.symm
    subst hw8
    clear hw1
    go_wp2
    clear ha x2 y1
    go_loopw [3, 20] (fun v kv wr => ∃ (k : Nat) (into' : Nat → Option Nat), k ≤ xs.length ∧ kv = .int .i64 k ∧ OwC6 wr w.heap.size M v ((xs.take k).map root) ∧ Bd6 wr B T M into' face cnt ∧ Fr6 M.length into' root rk ∧ Ch6 M w wr) (fun _ kv _ => xs.length - (intOf kv).toNat)
    case atStart => exact ⟨0, into, Nat.zero_le _, rfl, ⟨rfl, .inl ⟨rfl, rfl⟩⟩, HB.out, HF.out, Ch6.refl _ _⟩
    case round =>
      obtain ⟨k, into', hk, rfl, how, hb', hf', hch⟩ := hrel
      have HOw := hid how
      have HB' := hid hb'
      have HF' := hid hf'
      have HC := hid hch
      clear how hb' hf' hch
      by_cases hlt : k < xs.length
      · have hdk : decide ((k : Int) < (xs.length : Int)) = true := by simpa using hlt
        obtain ⟨x, hx⟩ : ∃ x, xs[k]? = some x := ⟨_, List.getElem?_eq_getElem hlt⟩
        have hxl := HX1.out x (List.mem_of_getElem? hx)
        obtain ⟨mx, hmx⟩ : ∃ m, M[x]? = some m := ⟨_, List.getElem?_eq_getElem hxl⟩
        obtain ⟨g, off, rfl, hgc, hcell⟩ : ∃ g off, ao = some ⟨g, off, none⟩ ∧ (∀ m' ∈ M, m'.cls ≠ g) ∧ w.cell? ⟨g, off + k, none⟩ = some (ndI M x) := by
          rcases HArg.out with h | ⟨g, off, h1, h2⟩
          · rw [h] at hlt; simp at hlt
          · exact ⟨g, off, h1, h2.2.1, h2.2.2 k x hx⟩
        have hcr := HC.out.cell hgc hcell
        have HXk := hid hx
        have HMx := hid hmx
        cases hnx : mx.nd with
        | var n =>
          rw [ndI_var hmx hnx] at hcr
          have HCl := hid (varClass_any HB'.out HF'.out hmx hnx)
          clear hx hcell hgc hmx hnx
          go_wp2_with fail
          refine HCl.out.mono ?_
          rintro e w1 ⟨into2, rfl, hrl, hb2, hf2, hc2⟩
          obtain ⟨mr, hmr⟩ : ∃ m, M[root x]? = some m := ⟨_, List.getElem?_eq_getElem hrl⟩
          rw [clV_eq hmr]
          have hCw := HC.out.trans hc2
          have ho1 : OwC6 w1 w.heap.size M _ ((xs.take k).map root) := own_ch6 HOw.out hc2 (fun m hm => Nat.lt_of_lt_of_le (HB.out.low m hm).1.2 HLo.out)
          obtain ⟨WA, hWA⟩ : ∃ X, X = w1.alloc (.cells #[.pointer (some ⟨mr.cls, 0, none⟩)] 139) := ⟨_, rfl⟩
          have bA : Below w1.heap.size w1 WA := by rw [hWA]; exact below_alloc _
          obtain ⟨v2, w2, hr2, o2, g2, _⟩ := join_cls6 177 (ao := some ⟨w1.heap.size, 0, none⟩) (cap := 1) (ys := [root x]) (own_ch6 ho1 (Ch6.of_below (M := M) bA) (fun m hm => Nat.lt_of_lt_of_le (HB.out.low m hm).1.2 HLo.out)) (.inr ⟨w1.heap.size, 0, rfl, fun j y hj => by
            match j, hj with
            | 0, hj =>
              cases hj
              rw [clV_eq hmr, hWA]
              exact cell_new rfl
            | j + 1, hj => simp at hj⟩) (Nat.le_trans hCw.size bA.size) (by rw [List.length_map, List.length_take]; simp; omega)
          have hnx2 : (xs.take (k + 1)).map root = (xs.take k).map root ++ [root x] := by rw [take_get HXk.out, List.map_append]; rfl
          rw [← hnx2] at o2
          have HR2 := hid hr2
          have HO2 := hid o2
          have hB2 : ∀ b, b < w.heap.size → w2.heap[b]? = w1.heap[b]? := fun b hb9 => by
            refine (g2.block b (Nat.lt_of_lt_of_le hb9 (Nat.le_trans hCw.size bA.size)) (fun e9 => ?_)).trans (bA.block b (Nat.lt_of_lt_of_le hb9 hCw.size))
            have := own_blk ho1 e9.symm
            omega
          have HB2 := hid (hb2.keep fun b hb9 => hB2 b (Nat.lt_of_lt_of_le hb9 HLo.out))
          have HC2 : Hid (Ch6 M w w2) := ⟨(g2.os.trans bA.os).trans hCw.os, (g2.tape.trans bA.tape).trans hCw.tape, (g2.output.trans bA.output).trans hCw.output, Nat.le_trans hCw.size (Nat.le_trans bA.size g2.size), fun b hb9 hm9 => (hB2 b hb9).trans (hCw.block b hb9 hm9)⟩
          have HF2 := hid hf2
          clear hb2 hf2 hc2 hCw ho1 bA hr2 o2 g2 hnx2 hB2 HCl hmr
          go_wp2_with (first
            | (rw [← hWA]; at_builtin; refine wpList_append_run rfl _ _ _ rfl _ _ rfl rfl HR2.out ?_))
          go_roundw
          case rel => exact ⟨k + 1, into2, hlt, by go_num, HO2.out, HB2.out, HF2.out, HC2.out⟩
          case measure => simp [intOf]; omega
        | app c2 xs2 =>
          rw [ndI_app hmx hnx] at hcr
          have HCl := hid (appClass_any HB'.out HF'.out hmx hnx)
          clear hx hcell hgc hmx hnx
          go_wp2_with fail
          refine HCl.out.mono ?_
          rintro e w1 ⟨into2, rfl, hrl, hb2, hf2, hc2⟩
          obtain ⟨mr, hmr⟩ : ∃ m, M[root x]? = some m := ⟨_, List.getElem?_eq_getElem hrl⟩
          rw [clV_eq hmr]
          have hCw := HC.out.trans hc2
          have ho1 : OwC6 w1 w.heap.size M _ ((xs.take k).map root) := own_ch6 HOw.out hc2 (fun m hm => Nat.lt_of_lt_of_le (HB.out.low m hm).1.2 HLo.out)
          obtain ⟨WA, hWA⟩ : ∃ X, X = w1.alloc (.cells #[.pointer (some ⟨mr.cls, 0, none⟩)] 139) := ⟨_, rfl⟩
          have bA : Below w1.heap.size w1 WA := by rw [hWA]; exact below_alloc _
          obtain ⟨v2, w2, hr2, o2, g2, _⟩ := join_cls6 177 (ao := some ⟨w1.heap.size, 0, none⟩) (cap := 1) (ys := [root x]) (own_ch6 ho1 (Ch6.of_below (M := M) bA) (fun m hm => Nat.lt_of_lt_of_le (HB.out.low m hm).1.2 HLo.out)) (.inr ⟨w1.heap.size, 0, rfl, fun j y hj => by
            match j, hj with
            | 0, hj =>
              cases hj
              rw [clV_eq hmr, hWA]
              exact cell_new rfl
            | j + 1, hj => simp at hj⟩) (Nat.le_trans hCw.size bA.size) (by rw [List.length_map, List.length_take]; simp; omega)
          have hnx2 : (xs.take (k + 1)).map root = (xs.take k).map root ++ [root x] := by rw [take_get HXk.out, List.map_append]; rfl
          rw [← hnx2] at o2
          have HR2 := hid hr2
          have HO2 := hid o2
          have hB2 : ∀ b, b < w.heap.size → w2.heap[b]? = w1.heap[b]? := fun b hb9 => by
            refine (g2.block b (Nat.lt_of_lt_of_le hb9 (Nat.le_trans hCw.size bA.size)) (fun e9 => ?_)).trans (bA.block b (Nat.lt_of_lt_of_le hb9 hCw.size))
            have := own_blk ho1 e9.symm
            omega
          have HB2 := hid (hb2.keep fun b hb9 => hB2 b (Nat.lt_of_lt_of_le hb9 HLo.out))
          have HC2 : Hid (Ch6 M w w2) := ⟨(g2.os.trans bA.os).trans hCw.os, (g2.tape.trans bA.tape).trans hCw.tape, (g2.output.trans bA.output).trans hCw.output, Nat.le_trans hCw.size (Nat.le_trans bA.size g2.size), fun b hb9 hm9 => (hB2 b hb9).trans (hCw.block b hb9 hm9)⟩
          have HF2 := hid hf2
          clear hb2 hf2 hc2 hCw ho1 bA hr2 o2 g2 hnx2 hB2 HCl hmr
          go_wp2_with (first
            | (rw [← hWA]; at_builtin; refine wpList_append_run rfl _ _ _ rfl _ _ rfl rfl HR2.out ?_))
          go_roundw
          case rel => exact ⟨k + 1, into2, hlt, by go_num, HO2.out, HB2.out, HF2.out, HC2.out⟩
          case measure => simp [intOf]; omega
      · have hdk : decide ((k : Int) < (xs.length : Int)) = false := by simpa using (show ¬ (k : Int) < (xs.length : Int) by omega)
        have hke : xs.take k = xs := List.take_of_length_le (by omega)
        rw [hke, ← HPe.out] at HOw
        clear hke
        go_wp2
        go_ret
        exact ⟨_, into', rfl, HOw.out, HB'.out, HF'.out, HC.out⟩

end Go.Proofs.YtoapgbaibpkckaaGreatDoor
