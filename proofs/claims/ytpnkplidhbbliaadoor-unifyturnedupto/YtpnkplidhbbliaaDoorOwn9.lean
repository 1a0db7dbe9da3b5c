/- Texts of the proof, one behind the other. -/
import Derived.Test.YtpnkplidhbbliaaDoorOwn8
import Derived.Test.YtpnkplidhbbliaaDoorOwn2
import Derived.Deep.LoopGhost
import Derived.Test.YtpnkplidhbbliaaDoorOwn7
/- The nodes of a right term, grown from its back to its front: plain. -/
namespace Go.Proofs.YtpnkplidhbbliaaDoor

theorem snoc_old {α : Type} {L : List α} {x y : α} {i : Nat} (h : L[i]? = some y) : (L ++ [x])[i]? = some y := by
  rw [List.getElem?_append_left (List.getElem?_eq_some_iff.1 h).1]
  exact h

theorem snoc_new {α : Type} (L : List α) (x : α) : (L ++ [x])[L.length]? = some x := by simp

theorem snoc_parts {α : Type} {L : List α} {x y : α} {i : Nat} (h : (L ++ [x])[i]? = some y) : L[i]? = some y ∨ (i = L.length ∧ y = x) := by
  have hi := (List.getElem?_eq_some_iff.1 h).1
  rw [List.length_append, List.length_singleton] at hi
  by_cases e : i < L.length
  · rw [List.getElem?_append_left e] at h
    exact .inl h
  · obtain rfl : i = L.length := by omega
    rw [snoc_new] at h
    exact .inr ⟨rfl, (Option.some.inj h).symm⟩

theorem ndOk_var {sig : List Sy} {L : List Nd} (h : NdOk sig L) {n : Int} (h0 : 0 ≤ n) (h1 : n < 1048576) (hn : ∀ i : Nat, L[i]? ≠ some (Nd.var n)) : NdOk sig (L ++ [.var n]) := by
  refine ⟨fun i m hm => ?_, fun i c xs hm => ?_, fun i c xs hm => ?_, fun i j m hi hj => ?_⟩
  · rcases snoc_parts hm with hm | ⟨_, hm⟩
    · exact h.num i m hm
    · cases hm
      exact ⟨h0, h1⟩
  · rcases snoc_parts hm with hm | ⟨_, hm⟩
    · exact h.sym i c xs hm
    · cases hm
  · rcases snoc_parts hm with hm | ⟨_, hm⟩
    · exact h.ahead i c xs hm
    · cases hm
  · rcases snoc_parts hi with hi | ⟨e1, hi⟩ <;> rcases snoc_parts hj with hj | ⟨e2, hj⟩
    · exact h.once i j m hi hj
    · cases hj
      exact (hn i hi).elim
    · cases hi
      exact (hn j hj).elim
    · rw [e1, e2]

theorem ndOk_app {sig : List Sy} {L : List Nd} (h : NdOk sig L) {c : Int} {xs : List Nat} (h0 : ¬ c < 0) (h1 : c.toNat < sig.length) (h2 : xs.length = arN sig c) (hx : ∀ x ∈ xs, x < L.length) : NdOk sig (L ++ [.app c xs]) := by
  refine ⟨fun i m hm => ?_, fun i c' xs' hm => ?_, fun i c' xs' hm => ?_, fun i j m hi hj => ?_⟩
  · rcases snoc_parts hm with hm | ⟨_, hm⟩
    · exact h.num i m hm
    · cases hm
  · rcases snoc_parts hm with hm | ⟨_, hm⟩
    · exact h.sym i c' xs' hm
    · cases hm
      exact ⟨h0, h1, h2⟩
  · rcases snoc_parts hm with hm | ⟨e, hq⟩
    · exact h.ahead i c' xs' hm
    · cases hq
      rw [e]
      exact hx
  · rcases snoc_parts hi with hi | ⟨_, hi⟩
    · rcases snoc_parts hj with hj | ⟨_, hj⟩
      · exact h.once i j m hi hj
      · cases hj
    · cases hi

theorem tmC_ext {L L' : List Nd} (he : ∀ (j : Nat) (d : Nd), L[j]? = some d → L'[j]? = some d) {i : Nat} {t : List Int} (h : TmC L id id i t) : TmC L' id id i t := by
  induction h with
  | var h => exact .var (he _ _ h)
  | app h hl _ ih => exact .app (he _ _ h) hl ih

theorem tmC_lt {L : List Nd} {i : Nat} {t : List Int} (h : TmC L id id i t) : i < L.length := by
  cases h with
  | var h => exact (List.getElem?_eq_some_iff.1 h).1
  | app h _ _ => exact (List.getElem?_eq_some_iff.1 h).1

theorem Bel.ext {L L' : List Nd} (he : ∀ (j : Nat) (d : Nd), L[j]? = some d → L'[j]? = some d) {r i : Nat} (h : Bel L r i) : Bel L' r i := by
  induction h with
  | here => exact .here _
  | arg _ hx hy ih => exact .arg ih (he _ _ hx) hy

theorem Bel.trans {L : List Nd} {r x y : Nat} (h : Bel L r x) (k : Bel L x y) : Bel L r y := by
  induction k with
  | here => exact h
  | arg _ hx hy ih => exact .arg ih hx hy

/-- Nodes grown for a row's end u, of L the first n0 are older: the stack has the terms that u is made of, the first one last. -/
structure Gr (sig : List Sy) (n0 : Nat) (L : List Nd) (st : List Nat) (u : List Int) : Prop where
  ok : NdOk sig L
  len : st.length = (growR sig u).length
  tms : ∃ ts : List (List Int), ts.length = st.length ∧ (∀ (k x : Nat) (t : List Int), st[k]? = some x → ts[k]? = some t → TmC L id id x t) ∧ ts.reverse.flatten = u
  cov : ∀ i, n0 ≤ i → i < L.length → ∃ x ∈ st, Bel L x i
  few : L.length ≤ n0 + u.length

theorem gr_start {sig : List Sy} {L : List Nd} (h : NdOk sig L) : Gr sig L.length L [] [] :=
  ⟨h, rfl, ⟨[], rfl, fun k x t h => (by simp at h), rfl⟩, fun i h1 h2 => by omega, by simp⟩

theorem Gr.lt {sig : List Sy} {n0 : Nat} {L : List Nd} {st : List Nat} {u : List Int} (h : Gr sig n0 L st u) {x : Nat} (hx : x ∈ st) : x < L.length := by
  obtain ⟨ts, hl, ht, _⟩ := h.tms
  obtain ⟨k, hk⟩ := List.getElem?_of_mem hx
  have hkl := (List.getElem?_eq_some_iff.1 hk).1
  exact tmC_lt (ht k x _ hk (List.getElem?_eq_getElem (by omega)))

theorem growStep_len (sig : List Sy) (u : List Int) (c : Int) : (growR sig (c :: u)).length = if c < 0 then (growR sig u).length + 1 else (growR sig u).length - arN sig c + 1 := by
  show (growStep sig (growR sig u) c).length = _
  unfold growStep
  split
  · simp
  · rw [List.length_append, List.length_take]
    simp only [List.length_cons, List.length_nil]
    omega

/-- A variable that has its node. -/
theorem gr_old {sig : List Sy} {n0 : Nat} {L : List Nd} {st : List Nat} {u : List Int} (h : Gr sig n0 L st u) {i : Nat} {n : Int} (hi : L[i]? = some (Nd.var n)) : Gr sig n0 L (st ++ [i]) ((-1 - n) :: u) := by
  have hn := h.ok.num i n hi
  obtain ⟨ts, hl, ht, hf⟩ := h.tms
  refine ⟨h.ok, ?_, ⟨ts ++ [[-1 - n]], by simp [hl], fun k x t hk hkt => ?_, by simp [hf]⟩, fun j h1 h2 => ?_, ?_⟩
  · rw [growStep_len, if_pos (by omega), List.length_append, h.len]
    rfl
  · rcases snoc_parts hk with hk | ⟨e, rfl⟩
    · rcases snoc_parts hkt with hkt | ⟨e2, _⟩
      · exact ht k x t hk hkt
      · have := (List.getElem?_eq_some_iff.1 hk).1
        omega
    · rcases snoc_parts hkt with hkt | ⟨_, rfl⟩
      · have := (List.getElem?_eq_some_iff.1 hkt).1
        omega
      · exact .var hi
  · obtain ⟨x, hx, hb⟩ := h.cov j h1 h2
    exact ⟨x, List.mem_append_left _ hx, hb⟩
  · have := h.few
    simp only [List.length_cons]
    omega

/-- More nodes. -/
theorem gr_more {sig : List Sy} {n0 : Nat} {L : List Nd} {st : List Nat} {u : List Int} (h : Gr sig n0 L st u) {d : Nd} (hk : NdOk sig (L ++ [d])) {st' : List Nat} {c : Int} (hl : st'.length = (growR sig (c :: u)).length) (ht : ∃ ts : List (List Int), ts.length = st'.length ∧ (∀ (k x : Nat) (t : List Int), st'[k]? = some x → ts[k]? = some t → TmC (L ++ [d]) id id x t) ∧ ts.reverse.flatten = c :: u)
    (hc : ∀ x ∈ st, ∃ y ∈ st', Bel (L ++ [d]) y x) (hn : L.length ∈ st') : Gr sig n0 (L ++ [d]) st' (c :: u) := by
  refine ⟨hk, hl, ht, fun i h1 h2 => ?_, ?_⟩
  · by_cases e : i < L.length
    · obtain ⟨x, hx, hb⟩ := h.cov i h1 e
      obtain ⟨y, hy, hb2⟩ := hc x hx
      exact ⟨y, hy, hb2.trans (hb.ext fun j d hj => snoc_old hj)⟩
    · rw [List.length_append, List.length_singleton] at h2
      obtain rfl : i = L.length := by omega
      exact ⟨_, hn, .here _⟩
  · have := h.few
    rw [List.length_append]
    simp only [List.length_cons, List.length_nil]
    omega

/-- A variable met first. -/
theorem gr_new {sig : List Sy} {n0 : Nat} {L : List Nd} {st : List Nat} {u : List Int} (h : Gr sig n0 L st u) {n : Int} (h0 : 0 ≤ n) (h1 : n < 1048576) (hn : ∀ i : Nat, L[i]? ≠ some (Nd.var n)) : Gr sig n0 (L ++ [.var n]) (st ++ [L.length]) ((-1 - n) :: u) := by
  obtain ⟨ts, hl, ht, hf⟩ := h.tms
  refine gr_more h (ndOk_var h.ok h0 h1 hn) ?_ ⟨ts ++ [[-1 - n]], by simp [hl], fun k x t hk hkt => ?_, by simp [hf]⟩ (fun x hx => ⟨x, List.mem_append_left _ hx, .here _⟩) (by simp)
  · rw [growStep_len, if_pos (by omega), List.length_append, h.len]
    rfl
  · rcases snoc_parts hk with hk | ⟨e, rfl⟩
    · rcases snoc_parts hkt with hkt | ⟨e2, _⟩
      · exact tmC_ext (fun j d hj => snoc_old hj) (ht k x t hk hkt)
      · have := (List.getElem?_eq_some_iff.1 hk).1
        omega
    · rcases snoc_parts hkt with hkt | ⟨_, rfl⟩
      · have := (List.getElem?_eq_some_iff.1 hkt).1
        omega
      · exact .var (snoc_new _ _)

/-- A symbol: its arguments leave the stack. -/
theorem gr_app {sig : List Sy} {n0 : Nat} {L : List Nd} {st : List Nat} {u : List Int} (h : Gr sig n0 L st u) {c : Int} (h0 : ¬ c < 0) (h1 : c.toNat < sig.length) (h2 : arN sig c ≤ st.length) :
    Gr sig n0 (L ++ [.app c (st.drop (st.length - arN sig c)).reverse]) (st.take (st.length - arN sig c) ++ [L.length]) (c :: u) := by
  obtain ⟨ts, hl, ht, hf⟩ := h.tms
  generalize hr : st.length - arN sig c = r
  have hrl : r ≤ st.length := by omega
  have htl : (st.take r).length = r := by rw [List.length_take]; omega
  refine gr_more h (ndOk_app h.ok h0 h1 (by rw [List.length_reverse, List.length_drop]; omega) (fun x hx => h.lt (List.mem_of_mem_drop (List.mem_reverse.1 hx)))) ?_
    ⟨ts.take r ++ [c :: (ts.drop r).reverse.flatten], by rw [List.length_append, List.length_append, List.length_take, List.length_take, hl]; rfl, fun k x t hk hkt => ?_, ?_⟩ (fun x hx => ?_) (by simp)
  · rw [growStep_len, if_neg h0, List.length_append, htl, ← h.len, hr]
    rfl
  · have htr : (ts.take r).length = r := by rw [List.length_take]; omega
    rcases snoc_parts hk with hk | ⟨e, rfl⟩
    · rcases snoc_parts hkt with hkt | ⟨e2, _⟩
      · have hkr := (List.getElem?_eq_some_iff.1 hk).1
        rw [htl] at hkr
        rw [List.getElem?_take_of_lt hkr] at hk hkt
        exact tmC_ext (fun j d hj => snoc_old hj) (ht k x t hk hkt)
      · have := (List.getElem?_eq_some_iff.1 hk).1
        omega
    · rcases snoc_parts hkt with hkt | ⟨_, rfl⟩
      · have := (List.getElem?_eq_some_iff.1 hkt).1
        omega
      · refine .app (snoc_new _ _) (by simp [hl]) (fun j y t hy hyt => ?_)
        have hj := (List.getElem?_eq_some_iff.1 hy).1
        rw [List.length_reverse, List.length_drop] at hj
        rw [List.getElem?_reverse (by rw [List.length_drop]; omega), List.length_drop, List.getElem?_drop] at hy hyt
        rw [hl] at hyt
        exact tmC_ext (fun j d hj => snoc_old hj) (ht _ y t hy hyt)
  · rw [List.reverse_append, List.flatten_append]
    simp only [List.reverse_cons, List.reverse_nil, List.nil_append, List.flatten_cons, List.flatten_nil, List.append_nil, List.cons_append]
    rw [← List.flatten_append, ← List.reverse_append, List.take_append_drop, hf]
  · rw [← List.take_append_drop r st] at hx
    rcases List.mem_append.1 hx with hx | hx
    · exact ⟨x, List.mem_append_left _ hx, .here _⟩
    · exact ⟨L.length, by simp, .arg (.here _) (snoc_new _ _) (List.mem_reverse.2 hx)⟩

/-- The whole of a right term: one node. -/
theorem gr_done {sig : List Sy} (ha : ArOk sig) {n0 : Nat} {L : List Nd} {st : List Nat} {u : List Int} (h : Gr sig n0 L st u) (hu : rowE sig u = 0) : ∃ r, st = [r] ∧ TmC L id id r u ∧ ∀ i, n0 ≤ i → i < L.length → Bel L r i := by
  obtain ⟨T, hT, _⟩ := grow_one ha hu
  have hl := h.len
  rw [hT] at hl
  obtain ⟨r, rfl⟩ := List.length_eq_one_iff.1 hl
  obtain ⟨ts, h1, h2, h3⟩ := h.tms
  obtain ⟨t, rfl⟩ := List.length_eq_one_iff.1 h1
  simp at h3
  subst h3
  refine ⟨r, rfl, h2 0 r t rfl rfl, fun i hi1 hi2 => ?_⟩
  obtain ⟨x, hx, hb⟩ := h.cov i hi1 hi2
  rw [List.mem_singleton] at hx
  rw [← hx]
  exact hb

end Go.Proofs.YtpnkplidhbbliaaDoor

/- The nodes and classes of package unify in memory. -/
namespace Go.Proofs.YtpnkplidhbbliaaDoor
open Go.RowKit Go.Maps Go.BigFrame

theorem cell_block6 {w w' : World} {g : Nat} (h : w'.heap[g]? = w.heap[g]?) (k : Nat) : w'.cell? ⟨g, k, none⟩ = w.cell? ⟨g, k, none⟩ := by
  simp only [World.cell?, h]

/-- A node in memory: its block, and its class's. -/
structure Nm where
  blk : Nat
  cls : Nat
  nd : Nd

def ndV (m : Nm) : Value := match m.nd with
  | .var _ => .iface 74 (.pointer (some ⟨m.blk, 0, none⟩))
  | .app _ _ => .iface 94 (.pointer (some ⟨m.blk, 0, none⟩))

def ndI (M : List Nm) (i : Nat) : Value := ((M[i]?).map ndV).getD .nilIface

def clA (M : List Nm) (i : Nat) : Option Addr := (M[i]?).map fun m => ⟨m.cls, 0, none⟩

def clV (M : List Nm) (i : Nat) : Value := .pointer (clA M i)

def inV (M : List Nm) (o : Option Nat) : Value := .pointer (o.bind (clA M))

/-- A node's own cells. -/
def NdAt (w : World) (T : Nat) (M : List Nm) (m : Nm) : Prop := match m.nd with
  | .var n => w.heap[m.blk]? = some (.cells #[.int .i64 n, .pointer (some ⟨m.cls, 0, none⟩)] 106)
  | .app c xs => ∃ ao cap, w.heap[m.blk]? = some (.cells #[.int .i64 c, .slice ao xs.length cap, .pointer (some ⟨m.cls, 0, none⟩)] 109) ∧ xs.length ≤ cap ∧ cap ≤ maxLen ∧ (xs = [] ∨ ∃ g off, ao = some ⟨g, off, none⟩ ∧ g < T ∧ (∀ m' ∈ M, m'.cls ≠ g) ∧ ∀ (k x : Nat), xs[k]? = some x → w.cell? ⟨g, off + k, none⟩ = some (ndI M x))

/-- A class's own cells. -/
def ClAt (w : World) (M : List Nm) (b : Nat) (o : Option Nat) (f : Nat) (n : Int) : Prop := ∃ k : Int, w.heap[b]? = some (.cells #[inV M o, .int .i64 k, ndI M f, .int .i64 n] 76)

/-- The nodes and their classes. -/
structure Bd6 (w : World) (B T : Nat) (M : List Nm) (into : Nat → Option Nat) (face : Nat → Nat) (cnt : Nat → Int) : Prop where
  inj : ∀ (i j : Nat) (m m' : Nm), M[i]? = some m → M[j]? = some m' → m.cls = m'.cls → i = j
  low : ∀ m ∈ M, (B ≤ m.cls ∧ m.cls < T) ∧ B ≤ m.blk ∧ m.blk < T
  apart : ∀ m ∈ M, ∀ m' ∈ M, m'.cls ≠ m.blk
  nds : ∀ m ∈ M, NdAt w T M m
  cls : ∀ (i : Nat) (m : Nm), M[i]? = some m → ClAt w M m.cls (into i) (face i) (cnt i)

/-- All but the classes' blocks is as it was. -/
structure Ch6 (M : List Nm) (w w' : World) : Prop where
  os : w'.os = w.os
  tape : w'.tape = w.tape
  output : w'.output = w.output
  size : w.heap.size ≤ w'.heap.size
  block : ∀ b, b < w.heap.size → (∀ m ∈ M, m.cls ≠ b) → w'.heap[b]? = w.heap[b]?

theorem Ch6.refl (M : List Nm) (w : World) : Ch6 M w w := ⟨rfl, rfl, rfl, Nat.le_refl _, fun _ _ _ => rfl⟩

theorem Ch6.trans {M : List Nm} {a b c : World} (h : Ch6 M a b) (k : Ch6 M b c) : Ch6 M a c :=
  ⟨k.os.trans h.os, k.tape.trans h.tape, k.output.trans h.output, Nat.le_trans h.size k.size, fun i hi hm => (k.block i (Nat.lt_of_lt_of_le hi h.size) hm).trans (h.block i hi hm)⟩

theorem Ch6.of_below {M : List Nm} {w w' : World} (h : Below w.heap.size w w') : Ch6 M w w' := ⟨h.os, h.tape, h.output, h.size, fun b hb _ => h.block b hb⟩

theorem Ch6.cell {M : List Nm} {w w' : World} (h : Ch6 M w w') {g o : Nat} {v : Value} (hg : ∀ m ∈ M, m.cls ≠ g) (hc : w.cell? ⟨g, o, none⟩ = some v) : w'.cell? ⟨g, o, none⟩ = some v :=
  (cell_block6 (h.block g (World.block_lt_of_cell? _ _ hc) hg) o).trans hc

theorem Ch6.below {M : List Nm} {w w' w0 : World} {B : Nat} (h : Ch6 M w w') (hl : ∀ m ∈ M, B ≤ m.cls) (hB : B ≤ w.heap.size) (hb : Below B w0 w) : Below B w0 w' :=
  ⟨h.os.trans hb.os, h.tape.trans hb.tape, h.output.trans hb.output, Nat.le_trans hb.size h.size, fun k hk => (h.block k (by omega) (fun m hm e => by have := hl m hm; omega)).trans (hb.block k hk)⟩

theorem set_size (w : World) (g i : Nat) (v : Value) : (w.setCell ⟨g, i, none⟩ v).heap.size = w.heap.size := by simp

theorem Ch6.set {M : List Nm} {w : World} {m : Nm} (hm : m ∈ M) (i : Nat) (v : Value) : Ch6 M w (w.setCell ⟨m.cls, i, none⟩ v) := by
  have hg := set_grown w m.cls i v
  exact ⟨hg.os, hg.tape, hg.output, hg.size, fun b hb hn => hg.block b hb (fun e => hn m hm (by cases e; rfl))⟩

theorem NdAt.ch {w w' : World} {T : Nat} {M : List Nm} {m : Nm} (h : NdAt w T M m) (hc : Ch6 M w w') (ha : ∀ m' ∈ M, m'.cls ≠ m.blk) : NdAt w' T M m := by
  unfold NdAt at h ⊢
  split
  · rename_i n hn
    rw [hn] at h
    simp only at h
    exact (hc.block _ (Array.getElem?_eq_some_iff.1 h).1 ha).trans h
  · rename_i c xs hn
    rw [hn] at h
    simp only at h
    obtain ⟨ao, cap, h1, h2, h3, h4⟩ := h
    refine ⟨ao, cap, (hc.block _ (Array.getElem?_eq_some_iff.1 h1).1 ha).trans h1, h2, h3, ?_⟩
    rcases h4 with h4 | ⟨g, off, e, hgT, hg, hx⟩
    · exact .inl h4
    · exact .inr ⟨g, off, e, hgT, hg, fun k x hk => hc.cell hg (hx k x hk)⟩

theorem Bd6.ch {w w' : World} {B T : Nat} {M : List Nm} {into into' : Nat → Option Nat} {face face' : Nat → Nat} {cnt cnt' : Nat → Int} (h : Bd6 w B T M into face cnt) (hc : Ch6 M w w') (hcl : ∀ (i : Nat) (m : Nm), M[i]? = some m → ClAt w' M m.cls (into' i) (face' i) (cnt' i)) : Bd6 w' B T M into' face' cnt' :=
  ⟨h.inj, h.low, h.apart, fun m hm => (h.nds m hm).ch hc (fun m' hm' => h.apart m hm m' hm'), hcl⟩

theorem Bd6.later {w w' : World} {B T : Nat} {M : List Nm} {into : Nat → Option Nat} {face : Nat → Nat} {cnt : Nat → Int} (h : Bd6 w B T M into face cnt) (hb : Below w.heap.size w w') : Bd6 w' B T M into face cnt :=
  h.ch (.of_below hb) fun i m hm => by
    obtain ⟨k, hk⟩ := h.cls i m hm
    exact ⟨k, (hb.block _ (Array.getElem?_eq_some_iff.1 hk).1).trans hk⟩

/-- What stands above the board may change. -/
theorem Bd6.keep {w w' : World} {B T : Nat} {M : List Nm} {into : Nat → Option Nat} {face : Nat → Nat} {cnt : Nat → Int} (h : Bd6 w B T M into face cnt) (hb : ∀ b, b < T → w'.heap[b]? = w.heap[b]?) : Bd6 w' B T M into face cnt := by
  refine ⟨h.inj, h.low, h.apart, fun m hm => ?_, fun i m hm => ?_⟩
  · have h1 := h.nds m hm
    have h2 := (h.low m hm).2.2
    unfold NdAt at h1 ⊢
    split
    · rename_i n hn
      rw [hn] at h1
      simp only at h1
      exact (hb _ h2).trans h1
    · rename_i c xs hn
      rw [hn] at h1
      simp only at h1
      obtain ⟨ao, cap, g1, g2, g3, g4⟩ := h1
      refine ⟨ao, cap, (hb _ h2).trans g1, g2, g3, ?_⟩
      rcases g4 with g4 | ⟨g, off, e, hgT, hg, hx⟩
      · exact .inl g4
      · exact .inr ⟨g, off, e, hgT, hg, fun k x hk => (cell_block6 (hb g hgT) _).trans (hx k x hk)⟩
  · obtain ⟨k, hk⟩ := h.cls i m hm
    exact ⟨k, (hb _ (h.low m (List.mem_of_getElem? hm)).1.2).trans hk⟩

/-- One class's block written. -/
theorem Bd6.put {w w' : World} {B T : Nat} {M : List Nm} {into : Nat → Option Nat} {face : Nat → Nat} {cnt : Nat → Int} (h : Bd6 w B T M into face cnt) {j : Nat} {mj : Nm} (hj : M[j]? = some mj) {o : Option Nat} {f : Nat} {n : Int} (hg : w.grownBy w' (some mj.cls)) (hn : ClAt w' M mj.cls o f n) :
    Bd6 w' B T M (fun i => if i = j then o else into i) (fun i => if i = j then f else face i) (fun i => if i = j then n else cnt i) ∧ Ch6 M w w' := by
  have hch : Ch6 M w w' := ⟨hg.os, hg.tape, hg.output, hg.size, fun b hb hm => hg.block b hb (fun e => hm mj (List.mem_of_getElem? hj) (by cases e; rfl))⟩
  refine ⟨h.ch hch fun i m hm => ?_, hch⟩
  by_cases e : i = j
  · subst e
    rw [hm] at hj
    cases hj
    simp only [if_true]
    exact hn
  · simp only [if_neg e]
    obtain ⟨k, hk⟩ := h.cls i m hm
    exact ⟨k, (hg.block _ (Array.getElem?_eq_some_iff.1 hk).1 (fun e9 => e (h.inj i j m mj hm hj (Option.some.inj e9)))).trans hk⟩

/-- The ways to the classes' roots: each step goes to a greater rank. -/
def Fr6 (n : Nat) (into : Nat → Option Nat) (root rk : Nat → Nat) : Prop := ∀ i, i < n → (into i = none → root i = i) ∧ ∀ j, into i = some j → j < n ∧ rk i < rk j ∧ root j = root i

theorem rk_most (rk : Nat → Nat) : ∀ n i, i < n → rk i ≤ ((List.range n).map rk).sum
  | 0, i, h => by omega
  | n + 1, i, h => by
    rw [List.range_succ, List.map_append, List.sum_append]
    by_cases e : i = n
    · subst e
      simp
    · have := rk_most rk n i (by omega)
      omega

theorem Fr6.halve {n : Nat} {into : Nat → Option Nat} {root rk : Nat → Nat} (h : Fr6 n into root rk) {j k l : Nat} (hj : j < n) (h1 : into j = some k) (h2 : into k = some l) : Fr6 n (fun i => if i = j then some l else into i) root rk := fun i hi => by
  by_cases e : i = j
  · subst e
    simp only [if_true]
    obtain ⟨a1, a2, a3⟩ := (h i hi).2 k h1
    obtain ⟨b1, b2, b3⟩ := (h k a1).2 l h2
    exact ⟨fun h9 => (by cases h9), fun x hx => (by cases hx; exact ⟨b1, by omega, by rw [b3, a3]⟩)⟩
  · simp only [if_neg e]
    exact h i hi

theorem clA_eq {M : List Nm} {i : Nat} {m : Nm} (h : M[i]? = some m) : clA M i = some ⟨m.cls, 0, none⟩ := by unfold clA; rw [h]; rfl

theorem clV_eq {M : List Nm} {i : Nat} {m : Nm} (h : M[i]? = some m) : clV M i = .pointer (some ⟨m.cls, 0, none⟩) := by unfold clV; rw [clA_eq h]

theorem inV_some {M : List Nm} {i : Nat} {m : Nm} (h : M[i]? = some m) : inV M (some i) = .pointer (some ⟨m.cls, 0, none⟩) := by unfold inV; rw [show (some i).bind (clA M) = clA M i from rfl, clA_eq h]

theorem inV_none (M : List Nm) : inV M none = .pointer none := rfl

theorem if_self6 {α : Type} {f : Nat → α} {j : Nat} : (fun i => if i = j then f j else f i) = f := by
  funext i
  by_cases e : i = j
  · rw [if_pos e, e]
  · rw [if_neg e]

set_option maxRecDepth 100000 in
set_option maxHeartbeats 1600000 in
/-- The whole class. -/
theorem whole_any {w : World} {B T : Nat} {M : List Nm} {into : Nat → Option Nat} {face : Nat → Nat} {cnt : Nat → Int} {root rk : Nat → Nat} (hb : Bd6 w B T M into face cnt) (hf : Fr6 M.length into root rk) {i : Nat} (hi : i < M.length) :
    Calls Tryd.prog 69 #[clV M i] w fun e w' => ∃ into', e = .returned (clV M (root i)) ∧ root i < M.length ∧ Bd6 w' B T M into' face cnt ∧ Fr6 M.length into' root rk ∧ Ch6 M w w' := by
  obtain ⟨mi, hmi⟩ : ∃ m, M[i]? = some m := ⟨_, List.getElem?_eq_getElem hi⟩
  rw [clV_eq hmi]
  have HB := hid hb
  have HF := hid hf
  have HMi := hid hmi
  clear hb hf hmi
  go_enter Tryd.func69, Tryd.ntmps69
  go_wp2
  go_loopg [0] (((List.range M.length).map rk).sum) (fun g v wr => ∃ (j : Nat) (mj : Nm) (into' : Nat → Option Nat), v = .pointer (some ⟨mj.cls, 0, none⟩) ∧ M[j]? = some mj ∧ root j = root i ∧ ((List.range M.length).map rk).sum - rk j ≤ g ∧ Bd6 wr B T M into' face cnt ∧ Fr6 M.length into' root rk ∧ Ch6 M w wr)
  case atStart => exact ⟨i, mi, into, rfl, HMi.out, rfl, by omega, HB.out, HF.out, Ch6.refl _ _⟩
  case round =>
    obtain ⟨j, mj, into', rfl, hmj, hrj, hg, hb', hf', hch⟩ := hrel
    have hjl := (List.getElem?_eq_some_iff.1 hmj).1
    have HMj := hid hmj
    have HRj := hid hrj
    have HG := hid hg
    have HB' := hid hb'
    have HF' := hid hf'
    have HC := hid hch
    obtain ⟨kj, hkj⟩ := hb'.cls j mj hmj
    have hmost := rk_most rk M.length
    have HMo := hid hmost
    cases hin : into' j with
    | none =>
      rw [hin, inV_none] at hkj
      have x0 := cell_of_row _ _ 0 _ _ _ hkj
      simp only [List.getElem?_toArray, List.getElem?_cons_zero] at x0
      have HE : Hid (root i = j) := by
        show _ = _
        rw [← hrj]
        exact (hf' j hjl).1 hin
      clear hmj hrj hg hb' hf' hch hkj hmost hin
      go_wp2
      go_ret
      refine ⟨into', ?_, by rw [HE.out]; exact hjl, HB'.out, HF'.out, HC.out⟩
      rw [HE.out, clV_eq HMj.out]
      rfl
    | some k =>
      obtain ⟨f1, f2, f3⟩ := (hf' j hjl).2 k hin
      obtain ⟨mk, hmk⟩ : ∃ m, M[k]? = some m := ⟨_, List.getElem?_eq_getElem f1⟩
      obtain ⟨kk, hkk⟩ := hb'.cls k mk hmk
      rw [hin, inV_some hmk] at hkj
      have HKj := hid hkj
      have x0 := cell_of_row _ _ 0 _ _ _ hkj
      have z0 : wr.frozen? ⟨mj.cls, 0, none⟩ = false := frozen_of_row _ _ _ _ _ hkj
      simp only [List.getElem?_toArray, List.getElem?_cons_zero] at x0
      have HMk := hid hmk
      cases hin2 : into' k with
      | none =>
        rw [hin2, inV_none] at hkk
        have y0 := cell_of_row _ _ 0 _ _ _ hkk
        simp only [List.getElem?_toArray, List.getElem?_cons_zero] at y0
        have HR2 : Hid (root k = root i ∧ rk j < rk k) := ⟨f3.trans hrj, f2⟩
        clear hmj hrj hg hb' hf' hch hkj hkk hmost hin hin2 hmk f2 f3 z0
        go_wp2
        go_roundg (((List.range M.length).map rk).sum - rk k)
        case measure => have := HR2.out.2; have := HMo.out k f1; have := HG.out; omega
        case rel => exact ⟨k, mk, into', rfl, HMk.out, HR2.out.1, Nat.le_refl _, HB'.out, HF'.out, HC.out⟩
      | some l =>
        obtain ⟨g1, g2, g3⟩ := (hf' k f1).2 l hin2
        obtain ⟨ml, hml⟩ : ∃ m, M[l]? = some m := ⟨_, List.getElem?_eq_getElem g1⟩
        rw [hin2, inV_some hml] at hkk
        have y0 := cell_of_row _ _ 0 _ _ _ hkk
        simp only [List.getElem?_toArray, List.getElem?_cons_zero] at y0
        have HR2 : Hid (root l = root i ∧ rk j < rk l) := ⟨(g3.trans f3).trans hrj, by show _ < _; omega⟩
        obtain ⟨W, hW⟩ : ∃ X, X = wr.setCell ⟨mj.cls, 0, none⟩ (.pointer (some ⟨ml.cls, 0, none⟩)) := ⟨_, rfl⟩
        have hblk : W.heap[mj.cls]? = some (.cells #[.pointer (some ⟨ml.cls, 0, none⟩), .int .i64 kj, ndI M (face j), .int .i64 (cnt j)] 76) := by
          rw [hW]
          exact heap_setCell_same _ _ _ _ _ _ hkj
        obtain ⟨hbn, hcn⟩ := hb'.put hmj (o := some l) (f := face j) (n := cnt j) (w' := W) (by rw [hW]; exact set_grown _ _ _ _) ⟨kj, by rw [inV_some hml]; exact hblk⟩
        rw [if_self6, if_self6] at hbn
        have HBn := hid hbn
        have HCn := hid (hch.trans hcn)
        have HFn := hid (hf'.halve hjl hin hin2)
        have HMl := hid hml
        have q0 := cell_of_row _ _ 0 _ _ _ hblk
        simp only [List.getElem?_toArray, List.getElem?_cons_zero] at q0
        clear hmj hrj hg hb' hf' hch hkj hkk hmost hin hin2 hmk f2 f3 g2 g3 hml hbn hcn hblk
        go_upto_region 4 with fail
        rw [← hW]
        clear hW x0 y0 z0
        go_wp2
        go_roundg (((List.range M.length).map rk).sum - rk l)
        case measure => have := HR2.out.2; have := HMo.out l g1; have := HG.out; omega
        case rel => exact ⟨l, ml, _, rfl, HMl.out, HR2.out.1, Nat.le_refl _, HBn.out, HFn.out, HCn.out⟩

end Go.Proofs.YtpnkplidhbbliaaDoor

/- Small functions of package unify walked. -/
namespace Go.Proofs.YtpnkplidhbbliaaDoor
open Go.RowKit Go.Maps Go.BigFrame

theorem under_uvar : Tryd.prog.underlying 74 = some (.pointer 106) := by kernel_rfl

theorem under_uapp : Tryd.prog.underlying 94 = some (.pointer 109) := by kernel_rfl

theorem zero_uvar : (Tryd.prog.info? 74).map (·.zero) = some (some (.pointer none)) := by kernel_rfl

theorem as_uvar (v : Value) (xT : TypeId) (w : World) : (Instr.typeAssert (.iface 74 v) xT 74 true).run Tryd.prog w = .ok (.tuple #[v, .bool true]) w := by
  simp [Instr.typeAssert, run_underlying under_uvar, go_sem, Result.andThen]

theorem as_uapp (v : Value) (xT : TypeId) (w : World) : (Instr.typeAssert (.iface 94 v) xT 94 false).run Tryd.prog w = .ok v w := by
  simp [Instr.typeAssert, run_underlying under_uapp, go_sem, Result.andThen]

theorem as_unot (v : Value) (xT : TypeId) (w : World) : (Instr.typeAssert (.iface 94 v) xT 74 true).run Tryd.prog w = .ok (.tuple #[.pointer none, .bool false]) w := by
  obtain ⟨i, hi, hz⟩ : ∃ i, Tryd.prog.info? 74 = some i ∧ i.zero = some (.pointer none) := by
    have h := zero_uvar
    cases hi : Tryd.prog.info? 74 with
    | none => rw [hi] at h; cases h
    | some i => rw [hi] at h; exact ⟨i, rfl, by simpa using h⟩
  simp [Instr.typeAssert, run_underlying under_uvar, go_sem, Result.andThen, zeroValue, typeInfo, hi, hz]

theorem ndI_eq {M : List Nm} {i : Nat} {m : Nm} (h : M[i]? = some m) : ndI M i = ndV m := by unfold ndI; rw [h]; rfl

theorem ndI_var {M : List Nm} {i : Nat} {m : Nm} {n : Int} (h : M[i]? = some m) (hn : m.nd = .var n) : ndI M i = .iface 74 (.pointer (some ⟨m.blk, 0, none⟩)) := by
  rw [ndI_eq h]
  unfold ndV
  rw [hn]

theorem ndI_app {M : List Nm} {i : Nat} {m : Nm} {c : Int} {xs : List Nat} (h : M[i]? = some m) (hn : m.nd = .app c xs) : ndI M i = .iface 94 (.pointer (some ⟨m.blk, 0, none⟩)) := by
  rw [ndI_eq h]
  unfold ndV
  rw [hn]

theorem Bd6.var {w : World} {B T : Nat} {M : List Nm} {into : Nat → Option Nat} {face : Nat → Nat} {cnt : Nat → Int} (h : Bd6 w B T M into face cnt) {i : Nat} {m : Nm} {n : Int} (hm : M[i]? = some m) (hn : m.nd = .var n) : w.cell? ⟨m.blk, 0, none⟩ = some (.int .i64 n) ∧ w.cell? ⟨m.blk, 1, none⟩ = some (.pointer (some ⟨m.cls, 0, none⟩)) := by
  have h1 := h.nds m (List.mem_of_getElem? hm)
  unfold NdAt at h1
  rw [hn] at h1
  exact ⟨cell_of_row _ _ _ _ _ _ h1, cell_of_row _ _ _ _ _ _ h1⟩

theorem Bd6.app {w : World} {B T : Nat} {M : List Nm} {into : Nat → Option Nat} {face : Nat → Nat} {cnt : Nat → Int} (h : Bd6 w B T M into face cnt) {i : Nat} {m : Nm} {c : Int} {xs : List Nat} (hm : M[i]? = some m) (hn : m.nd = .app c xs) : ∃ ao cap, (w.cell? ⟨m.blk, 0, none⟩ = some (.int .i64 c) ∧ w.cell? ⟨m.blk, 1, none⟩ = some (.slice ao xs.length cap) ∧ w.cell? ⟨m.blk, 2, none⟩ = some (.pointer (some ⟨m.cls, 0, none⟩))) ∧ xs.length ≤ cap ∧ cap ≤ maxLen ∧ (xs = [] ∨ ∃ g off, ao = some ⟨g, off, none⟩ ∧ g < T ∧ (∀ m' ∈ M, m'.cls ≠ g) ∧ ∀ (k x : Nat), xs[k]? = some x → w.cell? ⟨g, off + k, none⟩ = some (ndI M x)) := by
  have h1 := h.nds m (List.mem_of_getElem? hm)
  unfold NdAt at h1
  rw [hn] at h1
  obtain ⟨ao, cap, h2, h3⟩ := h1
  exact ⟨ao, cap, ⟨cell_of_row _ _ _ _ _ _ h2, cell_of_row _ _ _ _ _ _ h2, cell_of_row _ _ _ _ _ _ h2⟩, h3⟩

theorem Bd6.clc {w : World} {B T : Nat} {M : List Nm} {into : Nat → Option Nat} {face : Nat → Nat} {cnt : Nat → Int} (h : Bd6 w B T M into face cnt) {i : Nat} {m : Nm} (hm : M[i]? = some m) : ∃ k : Int, w.heap[m.cls]? = some (.cells #[inV M (into i), .int .i64 k, ndI M (face i), .int .i64 (cnt i)] 76) ∧ w.cell? ⟨m.cls, 0, none⟩ = some (inV M (into i)) ∧ w.cell? ⟨m.cls, 1, none⟩ = some (.int .i64 k) ∧ w.cell? ⟨m.cls, 2, none⟩ = some (ndI M (face i)) ∧ w.cell? ⟨m.cls, 3, none⟩ = some (.int .i64 (cnt i)) := by
  obtain ⟨k, hk⟩ := h.cls i m hm
  exact ⟨k, hk, cell_of_row _ _ _ _ _ _ hk, cell_of_row _ _ _ _ _ _ hk, cell_of_row _ _ _ _ _ _ hk, cell_of_row _ _ _ _ _ _ hk⟩

/-- Whether a node is a variable. -/
def isVarN (M : List Nm) (i : Nat) : Bool := match (M[i]?).map Nm.nd with | some (.var _) => true | _ => false

set_option maxRecDepth 100000 in
theorem uIsVar_any (w : World) {M : List Nm} {i : Nat} (hi : i < M.length) :
    Calls Tryd.prog 80 #[ndI M i] w fun e w' => e = .returned (.bool (isVarN M i)) ∧ w' = w := by
  obtain ⟨m, hm⟩ : ∃ m, M[i]? = some m := ⟨_, List.getElem?_eq_getElem hi⟩
  cases hn : m.nd with
  | var n =>
    have hv : isVarN M i = true := by unfold isVarN; rw [hm]; simp [hn]
    rw [ndI_var hm hn, hv]
    have ha := as_uvar (.pointer (some ⟨m.blk, 0, none⟩))
    clear hm hn hv hi
    go_enter Tryd.func80, Tryd.ntmps80
    go_wp2
    go_ret
    exact ⟨rfl, rfl⟩
  | app c xs =>
    have hv : isVarN M i = false := by unfold isVarN; rw [hm]; simp [hn]
    rw [ndI_app hm hn, hv]
    have ha := as_unot (.pointer (some ⟨m.blk, 0, none⟩))
    clear hm hn hv hi
    go_enter Tryd.func80, Tryd.ntmps80
    go_wp2
    go_ret
    exact ⟨rfl, rfl⟩

set_option maxRecDepth 100000 in
theorem varClass_any {w : World} {B T : Nat} {M : List Nm} {into : Nat → Option Nat} {face : Nat → Nat} {cnt : Nat → Int} {root rk : Nat → Nat} (hb : Bd6 w B T M into face cnt) (hf : Fr6 M.length into root rk) {i : Nat} {m : Nm} {n : Int} (hm : M[i]? = some m) (hn : m.nd = .var n) :
    Calls Tryd.prog 42 #[.pointer (some ⟨m.blk, 0, none⟩)] w fun e w' => ∃ into', e = .returned (clV M (root i)) ∧ root i < M.length ∧ Bd6 w' B T M into' face cnt ∧ Fr6 M.length into' root rk ∧ Ch6 M w w' := by
  obtain ⟨x0, x1⟩ := hb.var hm hn
  have HW := hid (whole_any hb hf (List.getElem?_eq_some_iff.1 hm).1)
  rw [clV_eq hm] at HW
  clear hb hf hm hn x0
  go_enter Tryd.func42, Tryd.ntmps42
  go_wp2_with fail
  refine HW.out.mono ?_
  rintro e w1 ⟨into', rfl, h1, h2, h3, h4⟩
  have H := hid (And.intro h1 (And.intro h2 (And.intro h3 h4)))
  clear h1 h2 h3 h4 x1
  go_wp2
  go_ret
  exact ⟨into', rfl, H.out⟩

set_option maxRecDepth 100000 in
theorem appClass_any {w : World} {B T : Nat} {M : List Nm} {into : Nat → Option Nat} {face : Nat → Nat} {cnt : Nat → Int} {root rk : Nat → Nat} (hb : Bd6 w B T M into face cnt) (hf : Fr6 M.length into root rk) {i : Nat} {m : Nm} {c : Int} {xs : List Nat} (hm : M[i]? = some m) (hn : m.nd = .app c xs) :
    Calls Tryd.prog 129 #[.pointer (some ⟨m.blk, 0, none⟩)] w fun e w' => ∃ into', e = .returned (clV M (root i)) ∧ root i < M.length ∧ Bd6 w' B T M into' face cnt ∧ Fr6 M.length into' root rk ∧ Ch6 M w w' := by
  obtain ⟨ao, cap, ⟨_, _, x2⟩, _⟩ := hb.app hm hn
  have HW := hid (whole_any hb hf (List.getElem?_eq_some_iff.1 hm).1)
  rw [clV_eq hm] at HW
  clear hb hf hm hn
  go_enter Tryd.func129, Tryd.ntmps129
  go_wp2_with fail
  refine HW.out.mono ?_
  rintro e w1 ⟨into', rfl, h1, h2, h3, h4⟩
  have H := hid (And.intro h1 (And.intro h2 (And.intro h3 h4)))
  clear h1 h2 h3 h4 x2
  go_wp2
  go_ret
  exact ⟨into', rfl, H.out⟩

set_option maxRecDepth 100000 in
set_option maxHeartbeats 800000 in
theorem is_any {w : World} {B T : Nat} {M : List Nm} {into : Nat → Option Nat} {face : Nat → Nat} {cnt : Nat → Int} (hb : Bd6 w B T M into face cnt) {i : Nat} {m : Nm} (hm : M[i]? = some m) (hf : face i < M.length) (n : Int) :
    Calls Tryd.prog 43 #[.pointer (some ⟨m.cls, 0, none⟩), .int .i64 n] w fun e w' => e = .returned (.bool (match (M[face i]?).map Nm.nd with | some (.var k) => decide (k = n) | _ => false)) ∧ w' = w := by
  obtain ⟨k9, _, _, _, x2, _⟩ := hb.clc hm
  obtain ⟨mf, hmf⟩ : ∃ m, M[face i]? = some m := ⟨_, List.getElem?_eq_getElem hf⟩
  rw [hmf]
  simp only [Option.map_some]
  cases hn : mf.nd with
  | var k =>
    obtain ⟨y0, _⟩ := hb.var hmf hn
    rw [ndI_var hmf hn] at x2
    have ha := as_uvar (.pointer (some ⟨mf.blk, 0, none⟩))
    obtain ⟨D, hD⟩ : ∃ D, D = decide (k = n) := ⟨_, rfl⟩
    have hD2 : (k == n) = D := by rw [hD]; rfl
    simp only
    rw [← hD]
    clear hb hm hf hmf hn hD
    go_enter Tryd.func43, Tryd.ntmps43
    go_wp2
    go_ret
    exact ⟨rfl, rfl⟩
  | app c xs =>
    rw [ndI_app hmf hn] at x2
    have ha := as_unot (.pointer (some ⟨mf.blk, 0, none⟩))
    clear hb hm hf hmf hn
    go_enter Tryd.func43, Tryd.ntmps43
    go_wp2
    go_ret
    exact ⟨rfl, rfl⟩

set_option maxRecDepth 100000 in
set_option maxHeartbeats 1600000 in
theorem faceOf_any {w : World} {B T : Nat} {M : List Nm} {into : Nat → Option Nat} {face : Nat → Nat} {cnt : Nat → Int} (hb : Bd6 w B T M into face cnt) {a b : Nat} (ha : a < M.length) (hbl : b < M.length) :
    Calls Tryd.prog 81 #[ndI M a, ndI M b] w fun e w' => e = .returned (ndI M (faceN (M.map Nm.nd) a b)) ∧ ∃ n, w' = w.drewN n := by
  obtain ⟨ma, hma⟩ : ∃ m, M[a]? = some m := ⟨_, List.getElem?_eq_getElem ha⟩
  obtain ⟨mb, hmb⟩ : ∃ m, M[b]? = some m := ⟨_, List.getElem?_eq_getElem hbl⟩
  have eA : (M.map Nm.nd)[a]? = some ma.nd := by rw [List.getElem?_map, hma]; rfl
  have eB : (M.map Nm.nd)[b]? = some mb.nd := by rw [List.getElem?_map, hmb]; rfl
  obtain ⟨F, hF⟩ : ∃ F, F = faceN (M.map Nm.nd) a b := ⟨_, rfl⟩
  rw [← hF]
  unfold faceN at hF
  rw [eA, eB] at hF
  cases hna : ma.nd with
  | app c xs =>
    rw [hna] at hF
    simp only at hF
    subst hF
    have h1 := as_unot (.pointer (some ⟨ma.blk, 0, none⟩))
    rw [ndI_app hma hna]
    obtain ⟨vb, hvb⟩ : ∃ v, v = ndI M b := ⟨_, rfl⟩
    rw [← hvb]
    clear hb ha hbl hma hmb eA eB hna hvb
    go_enter Tryd.func81, Tryd.ntmps81
    go_wp2
    go_ret
    exact ⟨rfl, 0, rfl⟩
  | var n =>
    have h1 := as_uvar (.pointer (some ⟨ma.blk, 0, none⟩))
    obtain ⟨y0, _⟩ := hb.var hma hna
    cases hnb : mb.nd with
    | app c xs =>
      rw [hna, hnb] at hF
      simp only at hF
      subst hF
      have h2 := as_unot (.pointer (some ⟨mb.blk, 0, none⟩))
      rw [ndI_var hma hna, ndI_app hmb hnb]
      clear hb ha hbl hma hmb eA eB hna hnb
      go_enter Tryd.func81, Tryd.ntmps81
      go_wp2
      go_quiet (fail)
      go_wp2
      go_ret
      exact ⟨rfl, _, rfl⟩
    | var k =>
      rw [hna, hnb] at hF
      simp only at hF
      have h2 := as_uvar (.pointer (some ⟨mb.blk, 0, none⟩))
      obtain ⟨q0, _⟩ := hb.var hmb hnb
      by_cases hlt : n < k
      · rw [if_pos hlt] at hF
        subst hF
        have hd : decide (n < k) = true := decide_eq_true hlt
        rw [ndI_var hma hna, ndI_var hmb hnb]
        clear hb ha hbl hma hmb eA eB hna hnb
        go_enter Tryd.func81, Tryd.ntmps81
        go_wp2
        go_quiet (fail)
        go_wp2
        go_ret
        exact ⟨rfl, _, rfl⟩
      · rw [if_neg hlt] at hF
        subst hF
        have hd : decide (n < k) = false := decide_eq_false hlt
        rw [ndI_var hma hna, ndI_var hmb hnb]
        clear hb ha hbl hma hmb eA eB hna hnb
        go_enter Tryd.func81, Tryd.ntmps81
        go_wp2
        go_quiet (fail)
        go_wp2
        go_ret
        exact ⟨rfl, _, rfl⟩

end Go.Proofs.YtpnkplidhbbliaaDoor

/- Rows of pairs and rows of classes of package unify. -/
namespace Go.Proofs.YtpnkplidhbbliaaDoor
open Go.RowKit Go.Maps Go.BigFrame

theorem info_pair6 : (Tryd.prog.info? 97).map (fun i => (i.zero, i.size, i.bytes)) = some (some (.agg #[.nilIface, .nilIface]), 2, 32) := by kernel_rfl
theorem under_pairs6 : Tryd.prog.underlying 98 = some (.slice 97) := by kernel_rfl

/-- A row of pairs of one's own. -/
def OwP6 (w : World) (base : Nat) (v : Value) (xs : List (Value × Value)) : Prop := w.ownsRow base 97 2 v xs.length (prC xs)

/-- Pairs joined to a row of pairs. -/
theorem join_pairs6 (ty : TypeId) {w : World} {base : Nat} {x : Value} {xs ys : List (Value × Value)} {ao : Option Addr} {cap : Nat} (ho : OwP6 w base x xs) (hr : ys = [] ∨ ∃ g off, ao = some ⟨g, off, none⟩ ∧ ∀ (j : Nat) (u : Value), (prC ys)[j]? = some u → w.cell? ⟨g, off + j, none⟩ = some u)
    (h1 : ∀ u ∈ prC ys, u.oneCell' = true) (hb : base ≤ w.heap.size) (hl : (xs.length + ys.length) * 32 ≤ 140737488355328) :
    ∃ v' w', (Builtin.append_ #[98, 98] ty #[x, .slice ao ys.length cap]).run Tryd.prog w = .ok v' w' ∧ OwP6 w' base v' (xs ++ ys) ∧ w.grownBy w' x.ownBlock ∧ (v'.ownBlock = x.ownBlock ∨ v'.ownBlock = some w.heap.size) := by
  obtain ⟨i0, hi, hz0, hz1, hz2⟩ := info_parts info_pair6
  have hshape : ∃ bo bc, x = .slice bo xs.length bc ∧ xs.length ≤ bc := by
    rcases ho.2 with ⟨h8, h9⟩ | ⟨g8, c8, cur8, h8, _, _, h9, _⟩
    · exact ⟨none, 0, by rw [h8, h9], by omega⟩
    · exact ⟨_, c8, h8, h9⟩
  by_cases h0 : ys = []
  · subst h0
    obtain ⟨bo, bc, rfl, hbc⟩ := hshape
    refine ⟨_, w, run_append_nothing w 98 98 ty 97 i0 under_pairs6 hi _ xs.length bc hbc _ ?_, by rw [List.append_nil]; exact ho, World.grownBy.refl _ _, .inl rfl⟩
    cases ao with
    | none => exact Src.ofNil w under_pairs6 _
    | some a => exact Src.ofSlice w under_pairs6 a 0 _ [] (by simp) (fun j u hj => (by simp at hj)) (fun u hu => (by simp at hu))
  · obtain ⟨g, off, rfl, hc⟩ : ∃ g off, ao = some ⟨g, off, none⟩ ∧ ∀ (j : Nat) (u : Value), (prC ys)[j]? = some u → w.cell? ⟨g, off + j, none⟩ = some u := by
      rcases hr with hr | hr
      · exact absurd hr h0
      · exact hr
    obtain ⟨v', w', hr, g2, g3, _, g5⟩ := run_append_own_at (P := Tryd.prog) w base 98 ty 97 i0 _ 2 32 under_pairs6 hi hz0 hz1 hz2 rfl (by decide) x xs.length (prC xs) ho ⟨g, off, none⟩ ys.length cap (prC ys) (prC_len ys)
      (fun j u hj => by rw [Addr.add_lit]; exact hc j u hj) h1 (by unfold maxLen; omega) (by omega) hb
    refine ⟨v', w', hr, ?_, g3, g5⟩
    unfold OwP6
    rw [List.length_append, prC_app]
    exact g2

theorem own_cutP6 {w : World} {base : Nat} {ao : Option Addr} {cap k : Nat} {xs : List (Value × Value)} (h : OwP6 w base (.slice ao xs.length cap) xs) (hk : k ≤ xs.length) : OwP6 w base (.slice ao k cap) (xs.take k) := by
  have h1 := h.1
  have hl : (xs.take k).length = k := by rw [List.length_take]; omega
  unfold OwP6
  rw [hl]
  refine ⟨by rw [prC_len, hl], ?_⟩
  rcases h.2 with ⟨hv, hn⟩ | ⟨g, cp, cur, hv, hb, hg, hc, hm, hs, ht⟩
  · simp only [Value.slice.injEq] at hv
    obtain ⟨rfl, _, rfl⟩ := hv
    obtain rfl : k = 0 := by omega
    exact .inl ⟨rfl, rfl⟩
  · simp only [Value.slice.injEq] at hv
    obtain ⟨rfl, _, rfl⟩ := hv
    refine .inr ⟨g, cap, cur, rfl, hb, hg, by omega, hm, hs, ?_⟩
    have e1 : prC (xs.take k) = (prC xs).take (k * 2) := by
      have e2 : prC xs = prC (xs.take k) ++ prC (xs.drop k) := by rw [← prC_app, List.take_append_drop]
      have e3 : (prC (xs.take k)).length = k * 2 := by rw [prC_len, hl]
      rw [e2, ← e3, List.take_left]
    rw [e1, ← ht, List.take_take, Nat.min_eq_left (by omega)]

/-- The last one of a row of pairs. -/
theorem own_lastP6 {w : World} {base : Nat} {v : Value} {xs : List (Value × Value)} {k : Nat} {p : Value × Value} (h : OwP6 w base v xs) (hk : xs[k]? = some p) : ∃ g cap, v = .slice (some ⟨g, 0, none⟩) xs.length cap ∧ base ≤ g ∧ xs.length ≤ cap ∧ cap ≤ 9223372036854775807 ∧ w.cell? ⟨g, k * 2, none⟩ = some p.1 ∧ w.cell? ⟨g, k * 2 + 1, none⟩ = some p.2 := by
  have hkl := (List.getElem?_eq_some_iff.1 hk).1
  obtain ⟨c1, c2⟩ := prC_at xs k p hk
  have hlen := prC_len xs
  rcases h.2 with ⟨_, hn⟩ | ⟨g, cp, cur, hv, hb, hg, hc, hm, hs, ht⟩
  · omega
  · subst hv
    unfold maxLen at hm
    refine ⟨g, cp, rfl, hb, hc, by omega, ?_, ?_⟩
    · rw [World.ownsRow.cellAt h (k * 2) (by omega)]
      exact c1
    · rw [World.ownsRow.cellAt h (k * 2 + 1) (by omega)]
      exact c2

theorem info_clp : (Tryd.prog.info? 68).map (fun i => (i.zero, i.size, i.bytes)) = some (some (.pointer none), 1, 8) := by kernel_rfl
theorem under_clps : Tryd.prog.underlying 102 = some (.slice 68) := by kernel_rfl

/-- A row of classes of one's own. -/
def OwC6 (w : World) (base : Nat) (M : List Nm) (v : Value) (xs : List Nat) : Prop := w.ownsRow base 68 1 v xs.length (xs.map (clV M))

/-- Classes joined to a row of classes. -/
theorem join_cls6 (ty : TypeId) {w : World} {base : Nat} {M : List Nm} {x : Value} {xs ys : List Nat} {ao : Option Addr} {cap : Nat} (ho : OwC6 w base M x xs) (hr : ys = [] ∨ ∃ g off, ao = some ⟨g, off, none⟩ ∧ ∀ (j y : Nat), ys[j]? = some y → w.cell? ⟨g, off + j, none⟩ = some (clV M y))
    (hb : base ≤ w.heap.size) (hl : (xs.length + ys.length) * 8 ≤ 140737488355328) :
    ∃ v' w', (Builtin.append_ #[102, 102] ty #[x, .slice ao ys.length cap]).run Tryd.prog w = .ok v' w' ∧ OwC6 w' base M v' (xs ++ ys) ∧ w.grownBy w' x.ownBlock ∧ (v'.ownBlock = x.ownBlock ∨ v'.ownBlock = some w.heap.size) := by
  obtain ⟨i0, hi, hz0, hz1, hz2⟩ := info_parts info_clp
  have hshape : ∃ bo bc, x = .slice bo xs.length bc ∧ xs.length ≤ bc := by
    rcases ho.2 with ⟨h8, h9⟩ | ⟨g8, c8, cur8, h8, _, _, h9, _⟩
    · exact ⟨none, 0, by rw [h8, h9], by omega⟩
    · exact ⟨_, c8, h8, h9⟩
  by_cases h0 : ys = []
  · subst h0
    obtain ⟨bo, bc, rfl, hbc⟩ := hshape
    refine ⟨_, w, run_append_nothing w 102 102 ty 68 i0 under_clps hi _ xs.length bc hbc _ ?_, by rw [List.append_nil]; exact ho, World.grownBy.refl _ _, .inl rfl⟩
    cases ao with
    | none => exact Src.ofNil w under_clps _
    | some a => exact Src.ofSlice w under_clps a 0 _ [] (by simp) (fun j u hj => (by simp at hj)) (fun u hu => (by simp at hu))
  · obtain ⟨g, off, rfl, hc⟩ : ∃ g off, ao = some ⟨g, off, none⟩ ∧ ∀ (j y : Nat), ys[j]? = some y → w.cell? ⟨g, off + j, none⟩ = some (clV M y) := by
      rcases hr with hr | hr
      · exact absurd hr h0
      · exact hr
    obtain ⟨v', w', hr, g2, g3, _, g5⟩ := run_append_own_at (P := Tryd.prog) w base 102 ty 68 i0 _ 1 8 under_clps hi hz0 hz1 hz2 rfl (by decide) x xs.length (xs.map (clV M)) ho ⟨g, off, none⟩ ys.length cap (ys.map (clV M)) (by rw [List.length_map, Nat.mul_one])
      (fun j u hj => by
        rw [Addr.add_lit]
        rw [List.getElem?_map] at hj
        cases hy : ys[j]? with
        | none => rw [hy] at hj; cases hj
        | some y =>
          rw [hy] at hj
          cases hj
          exact hc j y hy) (fun u hu => by obtain ⟨y, _, rfl⟩ := List.mem_map.1 hu; rfl) (by unfold maxLen; omega) (by omega) hb
    refine ⟨v', w', hr, ?_, g3, g5⟩
    unfold OwC6
    rw [List.length_append, List.map_append]
    exact g2

theorem OwC6.shape {w : World} {base : Nat} {M : List Nm} {v : Value} {xs : List Nat} (h : OwC6 w base M v xs) : ∃ ao cap, v = .slice ao xs.length cap ∧ xs.length ≤ cap ∧ cap ≤ maxLen := by
  rcases h.2 with ⟨rfl, hn⟩ | ⟨g, cap, cur, rfl, hb, hg, hc, hm, hs, ht⟩
  · exact ⟨none, 0, by rw [hn], by omega, by simp [maxLen]⟩
  · exact ⟨_, cap, rfl, hc, hm⟩

theorem own_cut6 {w : World} {base : Nat} {M : List Nm} {ao : Option Addr} {cap k : Nat} {xs : List Nat} (h : OwC6 w base M (.slice ao xs.length cap) xs) (hk : k ≤ xs.length) : OwC6 w base M (.slice ao k cap) (xs.take k) := by
  have h1 := h.1
  have hl : (xs.take k).length = k := by rw [List.length_take]; omega
  unfold OwC6
  rw [hl]
  refine ⟨by rw [List.length_map, hl, Nat.mul_one], ?_⟩
  rcases h.2 with ⟨hv, hn⟩ | ⟨g, cp, cur, hv, hb, hg, hc, hm, hs, ht⟩
  · simp only [Value.slice.injEq] at hv
    obtain ⟨rfl, _, rfl⟩ := hv
    obtain rfl : k = 0 := by omega
    exact .inl ⟨rfl, rfl⟩
  · simp only [Value.slice.injEq] at hv
    obtain ⟨rfl, _, rfl⟩ := hv
    refine .inr ⟨g, cap, cur, rfl, hb, hg, by omega, hm, hs, ?_⟩
    rw [List.map_take, ← ht, List.take_take, Nat.mul_one, Nat.mul_one, Nat.min_eq_left hk]

theorem own_last6 {w : World} {base : Nat} {M : List Nm} {v : Value} {xs : List Nat} {k x : Nat} (h : OwC6 w base M v xs) (hk : xs[k]? = some x) : ∃ g cap, v = .slice (some ⟨g, 0, none⟩) xs.length cap ∧ base ≤ g ∧ xs.length ≤ cap ∧ cap ≤ 9223372036854775807 ∧ w.cell? ⟨g, k, none⟩ = some (clV M x) := by
  have hkl := (List.getElem?_eq_some_iff.1 hk).1
  rcases h.2 with ⟨_, hn⟩ | ⟨g, cp, cur, hv, hb, hg, hc, hm, hs, ht⟩
  · omega
  · subst hv
    unfold maxLen at hm
    refine ⟨g, cp, rfl, hb, hc, by omega, ?_⟩
    rw [World.ownsRow.cellAt h k (by rw [Nat.mul_one]; exact hkl), List.getElem?_map, hk]
    rfl

/-- A row of one's own is kept where classes alone are written. -/
theorem own_ch6 {w w' : World} {base : Nat} {e : TypeId} {s n : Nat} {v : Value} {xs : List Value} {M : List Nm} (h : w.ownsRow base e s v n xs) (hc : Ch6 M w w') (hm : ∀ m ∈ M, m.cls < base) : w'.ownsRow base e s v n xs := by
  refine ⟨h.1, ?_⟩
  rcases h.2 with h | ⟨g, cap, cur, hv, hb, hg, r⟩
  · exact .inl h
  · exact .inr ⟨g, cap, cur, hv, hb, (hc.block g (Array.getElem?_eq_some_iff.1 hg).1 (fun m hm' e => by have := hm m hm'; omega)).trans hg, r⟩

theorem own_grown6 {w w' : World} {base : Nat} {e : TypeId} {s n : Nat} {v : Value} {xs : List Value} {row : Option Nat} (h : w.ownsRow base e s v n xs) (hg : w.grownBy w' row) (hr : v.ownBlock = none ∨ v.ownBlock ≠ row) : w'.ownsRow base e s v n xs := by
  refine ⟨h.1, ?_⟩
  rcases h.2 with h | ⟨g, cap, cur, rfl, hb, hgg, r⟩
  · exact .inl h
  · refine .inr ⟨g, cap, cur, rfl, hb, (hg.block g (Array.getElem?_eq_some_iff.1 hgg).1 ?_).trans hgg, r⟩
    rcases hr with hr | hr
    · cases hr
    · exact hr

end Go.Proofs.YtpnkplidhbbliaaDoor

/- slices.Clone and slices.Reverse at trees and classes of package unify. -/
namespace Go.Proofs.YtpnkplidhbbliaaDoor
open Go.RowKit Go.Maps Go.BigFrame

/-- A pointer. -/
def PtV (u : Value) : Prop := ∃ x, u = .pointer x

set_option maxRecDepth 1000000 in
set_option maxHeartbeats 1600000 in
theorem reverseC6_any (v : Value) (vals : List Value) (base : Nat) (w : World) (h : w.ownsRow base 68 1 v vals.length vals) (hif : ∀ u ∈ vals, PtV u) :
    Calls Tryd.prog 70 #[v] w fun e w' => e = .returned (.tuple #[]) ∧ w'.ownsRow base 68 1 v vals.length vals.reverse ∧ w.grownBy w' v.ownBlock := by
  have hsh : ∃ ao cap, v = .slice ao vals.length cap ∧ vals.length ≤ cap ∧ cap ≤ maxLen := by
    rcases h.2 with ⟨rfl, hn⟩ | ⟨g, cap, cur, rfl, hb, hg, hc, hm, hs, ht⟩
    · exact ⟨none, 0, by rw [hn], by omega, by simp [maxLen]⟩
    · exact ⟨_, cap, rfl, hc, hm⟩
  obtain ⟨ao, cap, rfl, hc1, hc2⟩ := hsh
  unfold maxLen at hc2
  have HV := hid h
  have HIf := hid hif
  clear h hif
  have mixed : Tryd.prog.follows .mixedOrders = true := by kernel_rfl
  go_enter Tryd.func70, Tryd.ntmps70
  go_wp2
  go_loopg [2, 3] vals.length (fun k s2 s3 wr => ∃ (i jn : Nat) (jz : Int) (dk : Array Value), s2 = .int .i64 i ∧ s3 = .int .i64 jz ∧ ((i : Int) < jz → jz = jn ∧ jn < vals.length) ∧ (¬ (i : Int) < jz → ¬ i < jn) ∧ jn - i ≤ k ∧
    dk.size = vals.length ∧ (∀ u ∈ dk.toList, PtV u) ∧ wr.ownsRow base 68 1 (.slice ao vals.length cap) vals.length dk.toList ∧ w.grownBy wr (Value.slice ao vals.length cap).ownBlock ∧ Sort.reverseLoop i jn dk = Sort.reverseLoop 0 (vals.length - 1) vals.toArray)
  case atStart => exact ⟨0, vals.length - 1, (vals.length : Int) - 1, vals.toArray, rfl, rfl, fun h => ⟨by omega, by omega⟩, fun h => by omega, by omega, by simp, HIf.out, HV.out, World.grownBy.refl _ _, rfl⟩
  case round =>
    obtain ⟨i, jn, jz, dk, rfl, rfl, h1, h2, hk, hds, hifd, how, hgr, heq⟩ := hrel
    by_cases hlt : (i : Int) < jz
    · obtain ⟨rfl, hjn⟩ := h1 hlt
      have hij : i < jn := by omega
      obtain ⟨g, cp, hv⟩ := own_form (v := .slice ao vals.length cap) how (by omega)
      simp only [Value.slice.injEq] at hv
      obtain ⟨rfl, _, rfl⟩ := hv
      have ci : wr.cell? ⟨g, i, none⟩ = some dk[i]! := by
        rw [World.ownsRow.cellAt how i (by omega)]
        simp [getElem!_pos, show i < dk.size by omega]
      have cj : wr.cell? ⟨g, jn, none⟩ = some dk[jn]! := by
        rw [World.ownsRow.cellAt how jn (by omega)]
        simp [getElem!_pos, show jn < dk.size by omega]
      have fi := World.ownsRow.frozenAt how i
      have fj := World.ownsRow.frozenAt how jn
      have HOw := hid how
      have HGr := hid hgr
      have HEq := hid heq
      have hil : i < vals.length := by omega
      obtain ⟨xi, hxi⟩ : ∃ x, x = dk[i]! := ⟨_, rfl⟩
      obtain ⟨xj, hxj⟩ : ∃ x, x = dk[jn]! := ⟨_, rfl⟩
      rw [← hxi] at ci
      rw [← hxj] at cj
      obtain ⟨yi, hyi⟩ : PtV xi := by rw [hxi, getElem!_pos dk i (by omega)]; exact hifd _ (Array.getElem_mem_toList (by omega))
      obtain ⟨yj, hyj⟩ : PtV xj := by rw [hxj, getElem!_pos dk jn (by omega)]; exact hifd _ (Array.getElem_mem_toList (by omega))
      subst hyi
      subst hyj
      have HXi := hid hxi
      have HXj := hid hxj
      have HIf2 : Hid (∀ u ∈ (Sort.swp dk i jn).toList, PtV u) := fun u hu => hifd u (swp_mem (by omega) (by omega) hu)
      clear hifd
      clear how hgr heq hxi hxj h1 h2
      have hst := (World.ownsRow.stored HOw.out i (.pointer yj)).1
      have hst2 := (World.ownsRow.stored hst jn (.pointer yi)).1
      have HS2 : Hid (((wr.setCell ⟨g, i, none⟩ (.pointer yj)).setCell ⟨g, jn, none⟩ (.pointer yi)).drew.ownsRow base 68 1 (.slice (some ⟨g, 0, none⟩) vals.length cap) vals.length (Sort.swp dk i jn).toList) := by
        rw [swp_list (by omega) (by omega), ← HXi.out, ← HXj.out]
        exact ownsRow_later hst2 (drawn_below1 _)
      have HG2 : Hid (w.grownBy ((wr.setCell ⟨g, i, none⟩ (.pointer yj)).setCell ⟨g, jn, none⟩ (.pointer yi)).drew (some g)) :=
        grown_trans HGr.out (grown_trans (set_grownT wr g i (.pointer yj)) (grown_trans (set_grownT _ g jn (.pointer yi)) (grown_of_below (drawn_below1 _) _)))
      clear hst hst2
      go_wp2_with fail
      go_region_o
      go_wp2
      go_roundg (jn - 1 - (i + 1))
      case measure => omega
      case rel =>
        have h9 := HEq.out
        rw [Sort.reverseLoop, if_pos hij] at h9
        exact ⟨i + 1, jn - 1, (jn : Int) - 1, Sort.swp dk i jn, by simp, rfl, fun h => ⟨by omega, by omega⟩, fun h => by omega, Nat.le_refl _, by rw [Sort.size_swp]; exact hds, HIf2.out, HS2.out, HG2.out, h9⟩
    · have hnot := h2 hlt
      have HR : Hid (dk.toList = vals.reverse) := by
        show _ = _
        rw [Sort.reverseLoop, if_neg hnot] at heq
        have h9 := Lib.reverseLoop_reverse vals.toArray
        rw [show vals.toArray.size = vals.length by simp] at h9
        rw [heq, h9]
        simp
      have HOw := hid how
      have HGr := hid hgr
      clear how hgr heq
      go_wp2
      go_end0
      exact ⟨rfl, by rw [← HR.out]; exact HOw.out, HGr.out⟩

set_option maxRecDepth 1000000 in
set_option maxHeartbeats 1600000 in
theorem reverseT6_any (v : Value) (vals : List Value) (base : Nat) (w : World) (h : w.ownsRow base 64 1 v vals.length vals) (hif : ∀ u ∈ vals, IfV u) :
    Calls Tryd.prog 60 #[v] w fun e w' => e = .returned (.tuple #[]) ∧ w'.ownsRow base 64 1 v vals.length vals.reverse ∧ w.grownBy w' v.ownBlock := by
  have hsh : ∃ ao cap, v = .slice ao vals.length cap ∧ vals.length ≤ cap ∧ cap ≤ maxLen := by
    rcases h.2 with ⟨rfl, hn⟩ | ⟨g, cap, cur, rfl, hb, hg, hc, hm, hs, ht⟩
    · exact ⟨none, 0, by rw [hn], by omega, by simp [maxLen]⟩
    · exact ⟨_, cap, rfl, hc, hm⟩
  obtain ⟨ao, cap, rfl, hc1, hc2⟩ := hsh
  unfold maxLen at hc2
  have HV := hid h
  have HIf := hid hif
  clear h hif
  have mixed : Tryd.prog.follows .mixedOrders = true := by kernel_rfl
  go_enter Tryd.func60, Tryd.ntmps60
  go_wp2
  go_loopg [2, 3] vals.length (fun k s2 s3 wr => ∃ (i jn : Nat) (jz : Int) (dk : Array Value), s2 = .int .i64 i ∧ s3 = .int .i64 jz ∧ ((i : Int) < jz → jz = jn ∧ jn < vals.length) ∧ (¬ (i : Int) < jz → ¬ i < jn) ∧ jn - i ≤ k ∧
    dk.size = vals.length ∧ (∀ u ∈ dk.toList, IfV u) ∧ wr.ownsRow base 64 1 (.slice ao vals.length cap) vals.length dk.toList ∧ w.grownBy wr (Value.slice ao vals.length cap).ownBlock ∧ Sort.reverseLoop i jn dk = Sort.reverseLoop 0 (vals.length - 1) vals.toArray)
  case atStart => exact ⟨0, vals.length - 1, (vals.length : Int) - 1, vals.toArray, rfl, rfl, fun h => ⟨by omega, by omega⟩, fun h => by omega, by omega, by simp, HIf.out, HV.out, World.grownBy.refl _ _, rfl⟩
  case round =>
    obtain ⟨i, jn, jz, dk, rfl, rfl, h1, h2, hk, hds, hifd, how, hgr, heq⟩ := hrel
    by_cases hlt : (i : Int) < jz
    · obtain ⟨rfl, hjn⟩ := h1 hlt
      have hij : i < jn := by omega
      obtain ⟨g, cp, hv⟩ := own_form (v := .slice ao vals.length cap) how (by omega)
      simp only [Value.slice.injEq] at hv
      obtain ⟨rfl, _, rfl⟩ := hv
      have ci : wr.cell? ⟨g, i, none⟩ = some dk[i]! := by
        rw [World.ownsRow.cellAt how i (by omega)]
        simp [getElem!_pos, show i < dk.size by omega]
      have cj : wr.cell? ⟨g, jn, none⟩ = some dk[jn]! := by
        rw [World.ownsRow.cellAt how jn (by omega)]
        simp [getElem!_pos, show jn < dk.size by omega]
      have fi := World.ownsRow.frozenAt how i
      have fj := World.ownsRow.frozenAt how jn
      have HOw := hid how
      have HGr := hid hgr
      have HEq := hid heq
      have hil : i < vals.length := by omega
      obtain ⟨xi, hxi⟩ : ∃ x, x = dk[i]! := ⟨_, rfl⟩
      obtain ⟨xj, hxj⟩ : ∃ x, x = dk[jn]! := ⟨_, rfl⟩
      rw [← hxi] at ci
      rw [← hxj] at cj
      obtain ⟨ti, yi, hyi⟩ : IfV xi := by rw [hxi, getElem!_pos dk i (by omega)]; exact hifd _ (Array.getElem_mem_toList (by omega))
      obtain ⟨tj, yj, hyj⟩ : IfV xj := by rw [hxj, getElem!_pos dk jn (by omega)]; exact hifd _ (Array.getElem_mem_toList (by omega))
      subst hyi
      subst hyj
      have HXi := hid hxi
      have HXj := hid hxj
      have HIf2 : Hid (∀ u ∈ (Sort.swp dk i jn).toList, IfV u) := fun u hu => hifd u (swp_mem (by omega) (by omega) hu)
      clear hifd
      clear how hgr heq hxi hxj h1 h2
      have hst := (World.ownsRow.stored HOw.out i (.iface tj yj)).1
      have hst2 := (World.ownsRow.stored hst jn (.iface ti yi)).1
      have HS2 : Hid (((wr.setCell ⟨g, i, none⟩ (.iface tj yj)).setCell ⟨g, jn, none⟩ (.iface ti yi)).drew.ownsRow base 64 1 (.slice (some ⟨g, 0, none⟩) vals.length cap) vals.length (Sort.swp dk i jn).toList) := by
        rw [swp_list (by omega) (by omega), ← HXi.out, ← HXj.out]
        exact ownsRow_later hst2 (drawn_below1 _)
      have HG2 : Hid (w.grownBy ((wr.setCell ⟨g, i, none⟩ (.iface tj yj)).setCell ⟨g, jn, none⟩ (.iface ti yi)).drew (some g)) :=
        grown_trans HGr.out (grown_trans (set_grownT wr g i (.iface tj yj)) (grown_trans (set_grownT _ g jn (.iface ti yi)) (grown_of_below (drawn_below1 _) _)))
      clear hst hst2
      go_wp2_with fail
      go_region_o
      go_wp2
      go_roundg (jn - 1 - (i + 1))
      case measure => omega
      case rel =>
        have h9 := HEq.out
        rw [Sort.reverseLoop, if_pos hij] at h9
        exact ⟨i + 1, jn - 1, (jn : Int) - 1, Sort.swp dk i jn, by simp, rfl, fun h => ⟨by omega, by omega⟩, fun h => by omega, Nat.le_refl _, by rw [Sort.size_swp]; exact hds, HIf2.out, HS2.out, HG2.out, h9⟩
    · have hnot := h2 hlt
      have HR : Hid (dk.toList = vals.reverse) := by
        show _ = _
        rw [Sort.reverseLoop, if_neg hnot] at heq
        have h9 := Lib.reverseLoop_reverse vals.toArray
        rw [show vals.toArray.size = vals.length by simp] at h9
        rw [heq, h9]
        simp
      have HOw := hid how
      have HGr := hid hgr
      clear how hgr heq
      go_wp2
      go_end0
      exact ⟨rfl, by rw [← HR.out]; exact HOw.out, HGr.out⟩

end Go.Proofs.YtpnkplidhbbliaaDoor
