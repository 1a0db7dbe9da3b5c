/- Texts of the proof, one behind the other. -/
import Derived.Test.YtpnkplidhbbliaaDoorOwn1
import Derived.Sort.WalkB12
import Derived.Lib.SlicesMore
import Derived.Lib.Walk
import Derived.Deep.LoopGhost
import Derived.Deep.DeepAppendRoom
import Derived.RangeFuncNested
import Derived.RangeFuncBound
import Derived.RangeFuncCalls
import Derived.RangeFuncLeaves
import Derived.RangeFuncBox
import Derived.Shelf.Abstract
import Derived.Shelf.RegionOpen
import Derived.OwnWalkIn
import Derived.TacticsInMore
import Derived.LoopNIn
import Derived.LoopIn
import Derived.Maps.Own
import Derived.Maps.OwnOps
import Derived.Maps.OwnSet
/- Rows of trees: cloned, turned round. -/
namespace Go.Proofs.YtpnkplidhbbliaaDoor
open Go.RowKit Go.Maps

section
variable {P : Program} {w w' : World} {ops : Array Oper} {rest : List Oper} {o : Oper} {a : Act} {Q : Exit → Act → World → Prop}

theorem wpList_append_runT (hg : o.guard = none) (s x : Operand) (t : TypeId) (ho : o.op = .call { callee := .builtin .append, args := #[s, x], argTypes := #[t, t] }) (v u : Value) {v' : Value} (hs : a.eval s = v) (hx : a.eval x = u)
    (hr : (Builtin.append_ #[t, t] o.type #[v, u]).run P w = .ok v' w') (h : wpList P ops Q rest (a.put o.dst v') w') : wpList P ops Q (o :: rest) a w := by
  refine wpList_plain hg fun K' hK' => ?_
  unfold Oper.wp
  simp [execOp, ho, resolve, invoke, builtin, hs, hx, hr, Result.andThen]
  exact hK' _ _ h

end

/-- A slice that is read, by its values. -/
def RdV (w : World) (v : Value) (vals : List Value) : Prop :=
  (v = .slice none 0 0 ∧ vals = []) ∨ ∃ g off cap, v = .slice (some ⟨g, off, none⟩) vals.length cap ∧ ∀ (j : Nat) (u : Value), vals[j]? = some u → w.cell? ⟨g, off + j, none⟩ = some u

theorem drawn_below1 (w : World) : Below w.heap.size w w.drew := (Below.refl _ _).drew

theorem set_grownT (w : World) (g k : Nat) (u : Value) : w.grownBy (w.setCell ⟨g, k, none⟩ u) (some g) :=
  ⟨rfl, rfl, rfl, by simp [World.setCell], fun i _ hne => heap_setCell_other _ _ _ _ (by intro e; subst e; exact hne rfl)⟩

/-- A value of an interface. -/
def IfV (u : Value) : Prop := ∃ t x, u = .iface t x

theorem swp_mem {d : Array Value} {i j : Nat} (hi : i < d.size) (hj : j < d.size) {u : Value} (h : u ∈ (Sort.swp d i j).toList) : u ∈ d.toList := by
  unfold Sort.swp at h
  simp only [Array.toList_setIfInBounds] at h
  rcases List.mem_or_eq_of_mem_set h with h | h
  · rcases List.mem_or_eq_of_mem_set h with h | h
    · exact h
    · rw [h, getElem!_pos d j hj]; exact Array.getElem_mem_toList hj
  · rw [h, getElem!_pos d i hi]; exact Array.getElem_mem_toList hi

theorem swp_list {d : Array Value} {i j : Nat} (hi : i < d.size) (hj : j < d.size) : (Sort.swp d i j).toList = (d.toList.set i d[j]!).set j d[i]! := by
  unfold Sort.swp
  simp [getElem!_pos, hi, hj]

end Go.Proofs.YtpnkplidhbbliaaDoor

/- Trees in memory; apply. -/
namespace Go.Proofs.YtpnkplidhbbliaaDoor
open Go.RowKit Go.Maps

/-- A term as a tree, without its symbols. -/
inductive Tr where
  | var : Tr
  | app : List Tr → Tr

mutual
def Tr.size : Tr → Nat
  | .var => 1
  | .app ts => 1 + sizes ts
def sizes : List Tr → Nat
  | [] => 0
  | t :: ts => t.size + sizes ts
end

theorem IfV.one {u : Value} (h : IfV u) : u.oneCell' = true := by obtain ⟨t, x, rfl⟩ := h; rfl

theorem sizes_app : ∀ (a b : List Tr), sizes (a ++ b) = sizes a + sizes b
  | [], b => by simp [sizes]
  | t :: a, b => by simp only [List.cons_append, sizes, sizes_app a b]; omega

theorem sizes_take (ts : List Tr) (k : Nat) : sizes (ts.take k) ≤ sizes ts := by
  have := sizes_app (ts.take k) (ts.drop k)
  rw [List.take_append_drop] at this
  omega

theorem Tr.pos (t : Tr) : 1 ≤ t.size := by
  cases t <;> simp only [Tr.size] <;> omega

theorem len_sizes : ∀ ts : List Tr, ts.length ≤ sizes ts
  | [] => by simp [sizes]
  | t :: ts => by
    have := t.pos
    have := len_sizes ts
    simp only [List.length_cons, sizes]
    omega

theorem RdV.kp {w w' : World} {v : Value} {vals : List Value} (h : RdV w v vals) (hk : Kp w w') : RdV w' v vals := by
  rcases h with h | ⟨g, off, cap, h1, h2⟩
  · exact .inl h
  · exact .inr ⟨g, off, cap, h1, fun j u hj => hk.cell _ _ (h2 j u hj)⟩

theorem RdV.at {w : World} {ao : Option Addr} {n cap : Nat} {vals : List Value} (h : RdV w (.slice ao n cap) vals) {k : Nat} {u : Value} (hk : vals[k]? = some u) : ∃ g off, ao = some ⟨g, off, none⟩ ∧ w.cell? ⟨g, off + k, none⟩ = some u := by
  rcases h with ⟨_, rfl⟩ | ⟨g, off, cap', h1, h2⟩
  · simp at hk
  · simp only [Value.slice.injEq] at h1
    exact ⟨g, off, h1.1, h2 k u hk⟩

end Go.Proofs.YtpnkplidhbbliaaDoor

/- A range over a function whose rounds are numbered: round k is handed just what the iterator hands it then. -/
namespace Go.Proofs.YtpnkplidhbbliaaDoor
open Go.RowKit Go.Maps Go.Shelf

attribute [local go_sem] Oper.semAt_some

section
variable {P : Program} {F : Fence} {n : Nat}

/-- Rounds by their numbers. -/
theorem range_rounds {g : Operand} {ps : Array Tmp} {assign body : Code} {Q : Exit → Act → World → Prop} {a : Act} {w : World} (hro : F.round = none) (h1 : 1 ≤ n) {gf : Nat} {lb : Array Value}
    (hg : a.eval g = .func (.func gf) #[] lb) (hFg : F.fn gf) (eg : ∀ args w, (callFunc gf args).run P w = .ok (.enter gf args) w)
    (args : Nat → Array Value) (N : Nat) (hps : ∀ k, (args k).size = ps.size) (Rd : World → Prop) (I : Nat → World → Prop)
    (hput : ∀ (k : Nat) (W : World) (l : Nat) (o o' : Obj), w.heap.size ≤ l → W.heap[l]? = some o → o.isCells = false → I k W → I k (W.putObj l o'))
    (h0 : ∀ r : Loop, I 0 ((w.alloc (.deferred (some []))).alloc (.loop r))) (hRd : ∀ k W, I k W → Rd W)
    (hseq : ∀ (l : Nat) (J : Nat → World → Prop) (W : World), (∀ k W1, J k W1 → Rd W1) → (∀ k W1, k < N → J k W1 → YieldAt F (n - 1 - 1) P l (args k) W1 fun e W' => e = .returned (.bool true) ∧ J (k + 1) W') → J 0 W →
      CallsIn F (n - 1) P gf (#[.func (.yield l) #[] #[]] ++ lb) W fun e W' => (∃ v, e = .returned v) ∧ J N W')
    (a1 : Nat → Act)
    (hassign : ∀ (l k : Nat) (W : World) (K : Act → World → Prop), K (a1 k) W → assign.wpIn (F.inRound l) (n - 1 - 1) P (Exit.then K (fun _ _ _ => False)) { tmps := (ps.zip (args k)).foldl (fun t (p, v) => t.setIfInBounds p v) a.tmps, defers := [] } W)
    (hbody : ∀ (l k : Nat) (W : World), k < N → I k W → body.wpIn (F.inRound l) (n - 1 - 1) P (fun e _ W' => e = .normal ∧ KeepsFrom w.heap.size W W' ∧ I (k + 1) W') (a1 k) W)
    (hdone : ∀ (D : Nat) (W : World), w.heap.size ≤ D → I N W → W.heap[D]? = some (.deferred (some [])) → Q .normal { a with defers := { target := .collected D, args := #[] } :: a.defers } W) :
    (Code.rangeFunc g ps assign body).wpIn F n P Q a w := by
  refine wpIn_rangeFunc fun fn hfn => ?_
  rw [hro]
  -- the record of the loop, as it stands between two rounds and in one
  obtain ⟨R, hR⟩ : ∃ R : LoopState → Loop, R = fun s => { state := s, pending := none, fn, tmps := a.tmps, params := ps, assign, body, defers := w.heap.size } := ⟨_, rfl⟩
  have hRs : ∀ s, (R s).state = s := fun s => by rw [hR]
  have hRb : ∀ s s', { R s with state := s' } = R s' := fun s s' => by rw [hR]
  obtain ⟨l, hl⟩ : ∃ l, l = w.heap.size + 1 := ⟨_, rfl⟩
  obtain ⟨W1, hW1⟩ : ∃ W, W = (w.alloc (.deferred (some []))).alloc (.loop (R .ready)) := ⟨_, rfl⟩
  have hl1 : W1.heap[l]? = some (.loop (R .ready)) := by
    rw [hW1, hl]
    have := World.alloc_heap_new (w.alloc (.deferred (some []))) (.loop (R .ready))
    rwa [World.size_alloc] at this
  have hd1 : W1.heap[w.heap.size]? = some (.deferred (some [])) := by
    rw [hW1]
    exact (Below.heap_alloc _ _ _ (by simp)).trans (World.alloc_heap_new w _)
  refine ⟨l, [{ target := .collected w.heap.size, args := #[] }], W1, { target := .fn (.func gf) lb, args := #[.func (.yield l) #[] #[]] }, W1, gf, #[.func (.yield l) #[] #[]] ++ lb, W1, ?_, ?_, ?_, ?_, fun _ => h1, ?_⟩
  · rw [hl, hW1, hR]
    exact run_enterLoop_outer _ _ _ _ _
  · simp only [resolve, hg]
    simp [go_sem]
  · intro f' hf'
    simp [Target.leads] at hf'
    subst hf'
    exact hFg
  · simp [invoke, go_sem, eg]
  · refine (hseq l (fun k W => I k W ∧ W.heap[l]? = some (.loop (R .ready)) ∧ W.heap[w.heap.size]? = some (.deferred (some []))) W1 (fun k W h => hRd k W h.1) ?_ ⟨by rw [hW1]; exact h0 _, hl1, hd1⟩).mono ?_
    · rintro k W hk ⟨hi, hL, hD⟩
      have hlt := (Array.getElem?_eq_some_iff.1 hL).1
      have hy := run_yield (P := P) (args := args k) hL (by rw [hR]; exact hps k)
      refine ⟨_, _, _, _, hy, ?_⟩
      rw [show (R .ready).assign = assign by rw [hR], show (R .ready).body = body by rw [hR], show (R .ready).fn = fn by rw [hR], show (R .ready).tmps = a.tmps by rw [hR], show (R .ready).params = ps by rw [hR]]
      refine roundIn_of_wpIn hfn (hassign l k W _ ⟨_, run_beginRound hL (hRs _), ?_⟩)
      rw [hRb]
      have hL2 : (W.putObj l (.loop (R .busy))).heap[l]? = some (.loop (R .busy)) := World.putObj_heap_same hlt
      have hD2 : (W.putObj l (.loop (R .busy))).heap[w.heap.size]? = some (.deferred (some [])) := (World.putObj_heap_other (by omega)).trans hD
      refine wpIn_mono (hbody l k _ hk (hput k W l _ _ (by omega) hL rfl hi)) ?_
      rintro e a3 W3 ⟨rfl, hkf, hi3⟩
      have hL3 := hkf.same _ _ (show w.heap.size ≤ l by omega) hL2 rfl
      have hD3 := hkf.same _ _ (Nat.le_refl _) hD2 rfl
      have he := run_endRound (P := P) none hL3
      refine ⟨_, _, he, rfl, ?_, ?_, ?_⟩
      · exact hput _ W3 l _ _ (by omega) hL3 rfl hi3
      · rw [World.putObj_heap_same (Array.getElem?_eq_some_iff.1 hL3).1]
        simp only [Option.isNone_none, if_true]
        rw [hR]
      · exact (World.putObj_heap_other (by omega)).trans hD3
    · rintro e W2 ⟨⟨v, rfl⟩, hi, hL, hD⟩
      have he := run_endLoop (P := P) hL (by rw [hRs]; simp)
      rw [show (R .ready).pending = none by rw [hR]] at he
      exact ⟨none, _, he, hdone _ _ (Nat.le_refl _) (hput _ W2 l _ _ (by omega) hL rfl hi) ((World.putObj_heap_other (by omega)).trans hD)⟩

end

end Go.Proofs.YtpnkplidhbbliaaDoor

/- slices.Backward over a row of numbers. -/
namespace Go.Proofs.YtpnkplidhbbliaaDoor
open Go.RowKit Go.Maps Go.Shelf

attribute [local go_sem] Oper.semAt_some

/-- What round k is handed. -/
def backA (t : List Int) (k : Nat) : Array Value := #[.int .i64 ((t.length - 1 - k : Nat) : Int), .int .i64 (t.reverse[k]?.getD 0)]

/-- What the iterator reads. -/
def BackR (Bs b off cap : Nat) (t : List Int) (W : World) : Prop := W.cell? ⟨Bs, 0, none⟩ = some (.slice (some ⟨b, off, none⟩) t.length cap) ∧ ∀ (j : Nat) (c : Int), t[j]? = some c → W.cell? ⟨b, off + j, none⟩ = some (.int .i64 c)

set_option maxRecDepth 100000 in
set_option maxHeartbeats 1600000 in
theorem back_rounds (F : Fence) (n : Nat) (hF : F.fn 77) (hro : F.round = none) (hn : 1 ≤ n) (Bs b off cap : Nat) (t : List Int) (ht : t.length * 8 ≤ 140737488351232) (_hcap : t.length ≤ cap) (_hcm : cap ≤ 9223372036854775807) (l : Nat) (J : Nat → World → Prop) (W : World)
    (hR : ∀ k W1, J k W1 → BackR Bs b off cap t W1) (hY : ∀ k W1, k < t.length → J k W1 → YieldAt F (n - 1) Tryd.prog l (backA t k) W1 fun e W' => e = .returned (.bool true) ∧ J (k + 1) W') (h0 : J 0 W) :
    CallsIn F n Tryd.prog 77 (#[.func (.yield l) #[] #[]] ++ #[.pointer (some ⟨Bs, 0, none⟩)]) W fun e W' => (∃ v, e = .returned v) ∧ J t.length W' := by
  refine callsIn_of_wp Tryd.func77 rfl hF ?_ hro
  simp only [Tryd.ntmps77, List.size_toArray, List.length_cons, List.length_nil, Nat.reduceAdd, Nat.reduceSub, Array.replicate_succ, Array.replicate_zero, List.push_toArray, List.append_toArray, List.nil_append, List.cons_append]
  have hb0 := (hR 0 W h0).1
  have hw0 : IntKind.i64.wrap ((t.length : Int) - 1) = (t.length : Int) - 1 := IntWalk.i64_in _ ⟨by omega, by omega⟩
  gi_wp2
  gi_loopw [3] (fun iv wr => ∃ k : Nat, k ≤ t.length ∧ iv = .int .i64 ((t.length : Int) - 1 - k) ∧ J k wr) (fun iv _ => (intOf iv + 1).toNat)
  case atStart => exact ⟨0, Nat.zero_le _, by simp, h0⟩
  case round =>
    obtain ⟨k, hk, rfl, hJ⟩ := hrel
    obtain ⟨hb1, hb2⟩ := hR k wr hJ
    by_cases hlt : k < t.length
    · obtain ⟨j, hj⟩ : ∃ j : Nat, j = t.length - 1 - k := ⟨_, rfl⟩
      have hjl : j < t.length := by omega
      have hji : (t.length : Int) - 1 - (k : Int) = (j : Int) := by omega
      obtain ⟨c, hc⟩ : ∃ c, t[j]? = some c := ⟨_, List.getElem?_eq_getElem hjl⟩
      have hcell := hb2 j c hc
      obtain ⟨fn, tmps, assign, body, hy, hRd⟩ := hY k wr hlt hJ
      have hbk : backA t k = #[.int .i64 (j : Int), .int .i64 c] := by
        unfold backA
        rw [List.getElem?_reverse hlt, ← hj, hc]
        rfl
      rw [hbk] at hy
      rw [hji]
      clear hb2 hbk hc hj
      gi_wp2
      refine hRd.mono ?_
      rintro e W3 ⟨rfl, hJ3⟩
      have hwj : IntKind.i64.wrap ((j : Int) - 1) = (j : Int) - 1 := IntWalk.i64_in _ ⟨by omega, by omega⟩
      gi_wp2
      go_roundw
      case rel => exact ⟨k + 1, by omega, congrArg (Value.int .i64) (by omega), hJ3⟩
      case measure => simp [intOf]
    · have hke : k = t.length := by omega
      subst hke
      gi_wp2
      go_end0
      exact ⟨⟨_, rfl⟩, hJ⟩

theorem back_any (ao : Option Addr) (len cap : Nat) (w : World) (F : Fence) (n : Nat) (hF : F.fn 57) (hro : F.round = none) :
    CallsIn F n Tryd.prog 57 #[.slice ao len cap] w fun e w' => e = .returned (.func (.func 77) #[] #[.pointer (some ⟨w.heap.size, 0, none⟩)]) ∧ w' = w.alloc (.cells #[.slice ao len cap] 23) := by
  refine callsIn_of_wp Tryd.func57 rfl hF ?_ hro
  simp only [Tryd.ntmps57, List.size_toArray, List.length_cons, List.length_nil, Nat.reduceAdd, Nat.reduceSub, Array.replicate_succ, Array.replicate_zero, List.push_toArray, List.append_toArray, List.nil_append, List.cons_append]
  gi_wp2
  go_ret
  exact ⟨rfl, rfl⟩

end Go.Proofs.YtpnkplidhbbliaaDoor

/- What Vars, and the law file's same, answer. -/
namespace Go.Proofs.YtpnkplidhbbliaaDoor
open Go.RowKit Go.Maps

/-- The codes below 0 of a row, each once, as they are met, behind those that were met. -/
def metA : List Int → List Int → List Int
  | m, [] => m
  | m, c :: r => if 0 ≤ c ∨ c ∈ m then metA m r else metA (m ++ [c]) r

def varsL (t : List Int) : List Int := (metA [] t).map fun c => -1 - c

theorem set_keyed : Keyed Tryd.prog 3 := int_keyed (q := .i64) (by kernel_rfl)
theorem under_set : Tryd.prog.underlying 50 = some (.map 3 51) := by kernel_rfl
theorem zero_unit (w : World) : (zeroValue 51).run Tryd.prog w = .ok (.agg #[]) w := by kernel_rfl

theorem key_int {c : Int} (h1 : -9223372036854775808 ≤ c) (h2 : c ≤ 9223372036854775807) : keyOf Tryd.prog 3 (.int .i64 c) = some (.int .i64 c) := by
  refine keyOf_int_mk (by kernel_rfl) ?_
  have e0 : IntKind.i64.min = -9223372036854775808 := by decide
  have e1 : IntKind.i64.max = 9223372036854775807 := by decide
  simp [Lit.wf, e0, e1]
  omega

theorem Is.range {w : World} {v : Value} {xs : List Int} (h : Is w v xs) : ZI xs := fun k x hk => by
  obtain ⟨ao, cap, rfl, _, _, hx⟩ := Row.flat h
  obtain ⟨_, _, y, _, hy, h1, h2, _⟩ := hx k (List.getElem?_eq_some_iff.1 hk).1
  rw [hk] at hy
  cases hy
  exact ⟨h1, h2⟩

theorem Is.flatI {w : World} {v : Value} {xs : List Int} (h : Is w v xs) : ∃ ao cap, v = .slice ao xs.length cap ∧ xs.length ≤ cap ∧ cap ≤ 9223372036854775807 ∧
    ∀ k : Nat, k < xs.length → ∃ g off x, ao = some ⟨g, off, none⟩ ∧ xs[k]? = some x ∧ w.cell? ⟨g, off + k, none⟩ = some (.int .i64 x) := by
  obtain ⟨ao, cap, rfl, h1, h2, hx⟩ := Row.flat h
  refine ⟨ao, cap, rfl, h1, by unfold maxLen at h2; omega, fun k hk => ?_⟩
  obtain ⟨g, off, x, rfl, hm, _, _, h3⟩ := hx k hk
  rw [Nat.mul_one] at h3
  exact ⟨g, off, x, rfl, hm, h3⟩

theorem drawn_below {w w' : World} {n : Nat} (h : w' = w.drewN n) : Below w.heap.size w w' := by rw [h]; exact below_drewN (Below.refl _ _) n

theorem cell_int_new (w : World) (x : Int) (j : Nat) (u : Value) (hj : [Value.int .i64 x][j]? = some u) : (w.alloc (.cells #[.int .i64 x] 3)).cell? ((⟨w.heap.size, 0, none⟩ : Addr).add j) = some u := by
  rw [Addr.add_lit, Nat.zero_add, cell_of_row _ _ _ _ _ _ (heap_alloc_new _ _)]
  simpa using hj

theorem own_notMap {w : World} {base n : Nat} {e : TypeId} {s b : Nat} {v : Value} {xs : List Value} {es : Array MapEntry} {clock : Nat} (h : w.ownsRow base e s v n xs) (hb : w.heap[b]? = some (.map es clock)) : v.ownBlock = none ∨ v.ownBlock ≠ some b := by
  rcases h.2 with ⟨rfl, _⟩ | ⟨g, cap, cur, rfl, _, hg, _⟩
  · exact .inl rfl
  · refine .inr ?_
    simp only [Value.ownBlock]
    intro e
    cases e
    rw [hg] at hb
    cases hb

/-- The row of numbers, behind a store into the map and the new element. -/
theorem vars_row {H : Type} {w wr w4 : World} {o o' : Obj} {n b : Nat} {R : Value → Option (DataW H × List MemPlace)} {D : DataW H} {x : Value} {zs : List Int} {kt : TypeId} (h : OwI wr w.heap.size x zs) (hm : wr.ownsMap Tryd.prog kt R b n D) (hg : (wr.alloc o).grownBy w4 (some b)) :
    OwI w4 w.heap.size x zs ∧ (w4.alloc o').ownsRow w.heap.size 3 1 x zs.length (zs.map I64) := by
  have hm2 := hm.alloc o
  obtain ⟨es, clock, hb, _⟩ := hm2
  have h2 := h.later (below_alloc o)
  have h3 := h2.kept hg (own_notMap h2.2 hb)
  exact ⟨h3, ownsRow_later h3.2 (below_alloc o')⟩

theorem vars_next {H : Type} {w wr w4 w5 : World} {o o' : Obj} {b : Nat} {D : DataW H} {x5 x4 : Value} {m : List Int} {x : Int} (hB : Below w.heap.size w wr) (h : OwI wr w.heap.size x4 (m.map fun c => -1 - c)) (hm : wr.ownsMap Tryd.prog 3 unitElem b m.length D) (hh : ∀ c : Int, Maps.has D (.int .i64 c) = decide (c ∈ m))
    (hg : (wr.alloc o).grownBy w4 (some b)) (hm4 : w4.ownsMap Tryd.prog 3 unitElem b (m.length + 1) (D.put (.int .i64 x) (.agg []))) (hown : w5.ownsRow w.heap.size 3 1 x5 ((m.map fun c => -1 - c).length + 1) ((m.map fun c => -1 - c).map I64 ++ [.int .i64 (-1 - x)])) (hgr : (w4.alloc o').grownBy w5 x4.ownBlock) (hz : -9223372036854775808 ≤ -1 - x ∧ -1 - x ≤ 9223372036854775807) (hb : w.heap.size ≤ b := by exact Nat.le_refl _) :
    Hid (OwI w5 w.heap.size x5 ((m ++ [x]).map fun c => -1 - c) ∧ w5.ownsMap Tryd.prog 3 unitElem b (m ++ [x]).length (D.put (.int .i64 x) (.agg [])) ∧ (∀ c : Int, Maps.has (D.put (.int .i64 x) (.agg [])) (.int .i64 c) = decide (c ∈ m ++ [x])) ∧ Below w.heap.size w w5) := by
  have hT := hm.tidy set_keyed
  have hK : WideAt.IsKeyLit (.int .i64 x) := set_keyed.key (key_int (by omega) (by omega))
  obtain ⟨h4, h4'⟩ := vars_row (o' := o') h hm hg
  obtain ⟨es, clock, hbm, _⟩ := hm4.alloc o'
  have b1 : Below w.heap.size w w4 := (below_step hB (below_alloc o)).grown hg (below_step hB (below_alloc o)).size (fun j hj => by cases hj; exact hb)
  have b2 : Below w.heap.size w (w4.alloc o') := below_step b1 (below_alloc o')
  refine ⟨⟨fun j z hj => ?_, ?_⟩, ?_, fun c => ?_, b2.grown hgr b2.size (fun j hj => own_blk h4' hj)⟩
  · rw [List.map_append] at hj
    by_cases hjl : j < (m.map fun c => -1 - c).length
    · rw [List.getElem?_append_left hjl] at hj
      exact h.1 j z hj
    · rw [List.getElem?_append_right (by omega)] at hj
      have e0 : j - (m.map fun c => -1 - c).length = 0 := by
        have := (List.getElem?_eq_some_iff.1 hj).1
        simp at this
        simp
        omega
      rw [e0] at hj
      simp at hj
      omega
  · rw [List.map_append, List.map_append, List.length_append]
    exact hown
  · rw [List.length_append]
    refine (hm4.alloc o').kept hgr (fun e => ?_)
    rcases own_notMap h4' hbm with h0 | h0
    · rw [h0] at e
      cases e
    · exact h0 e.symm
  · by_cases e : c = x
    · subst e
      rw [has_put_same hT.isMap hK]
      simp
    · rw [has_put_other (by simpa using e), hh]
      simp [e]

set_option maxRecDepth 100000 in
set_option maxHeartbeats 1600000 in
theorem vars_any (v : Value) (t : List Int) (w : World) (h : Is w v t) (hb : t.length * 8 ≤ 140737488351232) :
    Calls Tryd.prog 16 #[v] w fun e w' => ∃ v', e = .returned v' ∧ OwI w' w.heap.size v' (varsL t) ∧ Below w.heap.size w w' := by
  obtain ⟨i1, hi1, hy0, hy1, hy2⟩ := info_parts info_int
  obtain ⟨ao, cap, rfl, hao, hca, q0⟩ := Row.flat h
  unfold maxLen at hca
  have HT : Hid (Is w (.slice ao t.length cap) t) := h
  clear h q0
  have hmm := @run_makeMap Tryd.prog
  go_enter Tryd.func16, Tryd.ntmps16
  go_wp2
  go_loopw [4, 12] (fun x i wr => ∃ (k : Nat) (m : List Int) (D : DataW Unit), k ≤ t.length ∧ i = .int .i64 k ∧ metA [] t = metA m (t.drop k) ∧ m.length ≤ k ∧ OwI wr w.heap.size x (m.map fun c => -1 - c) ∧ wr.ownsMap Tryd.prog 3 unitElem w.heap.size m.length D ∧ (∀ c : Int, Maps.has D (.int .i64 c) = decide (c ∈ m)) ∧ Below w.heap.size w wr) (fun _ i _ => t.length - (intOf i).toNat)
  case atStart => exact ⟨0, [], .map [], Nat.zero_le _, rfl, rfl, Nat.le_refl _, ⟨fun k x hk => (by simp at hk), World.ownsRow_nil _ _ _ _⟩, World.ownsMap_made w _ _ _, fun c => (by simp [Maps.has]), below_alloc _⟩
  case round =>
    obtain ⟨k, m, D, hk, rfl, hme, hml, how, hmap, hhas, hbl⟩ := hrel
    have HMe : Hid (metA [] t = metA m (t.drop k)) := hme
    have HOw : Hid (OwI wr w.heap.size u4 (m.map fun c => -1 - c)) := how
    have HMap : Hid (wr.ownsMap Tryd.prog 3 unitElem w.heap.size m.length D) := hmap
    have HHas : Hid (∀ c : Int, Maps.has D (.int .i64 c) = decide (c ∈ m)) := hhas
    have HB : Hid (Below w.heap.size w wr) := hbl
    clear hme how hmap hhas
    by_cases hlt : k < t.length
    · obtain ⟨g, off, x, rfl, hx1, hx2, hx3, hx4⟩ := (HT.out.kp (Kp.of_below hbl)).at hlt
      have hd : t.drop k = x :: t.drop (k + 1) := drop_get hx1
      have HD : Hid (t.drop k = x :: t.drop (k + 1)) := hd
      clear hx1 hd hbl
      by_cases hx0 : 0 ≤ x
      · have HN : Hid (metA [] t = metA m (t.drop (k + 1))) := by show _ = _; rw [HMe.out, HD.out, metA, if_pos (.inl hx0)]
        go_wp2
        go_roundw
        case rel => exact ⟨k + 1, m, D, by omega, by go_num, HN.out, by omega, HOw.out, HMap.out, HHas.out, HB.out⟩
        case measure => simp [intOf]; omega
      · have HKey : Hid (keyOf Tryd.prog 3 (.int .i64 x) = some (.int .i64 x)) := key_int hx3 hx4
        by_cases hin : x ∈ m
        · have HN : Hid (metA [] t = metA m (t.drop (k + 1))) := by show _ = _; rw [HMe.out, HD.out, metA, if_pos (.inr hin)]
          have hh : Maps.has D (.int .i64 x) = true := by rw [HHas.out, decide_eq_true hin]
          go_wp2_with (first
            | (at_lookup; refine wpList_lookup_own_unit _ rfl _ _ 50 rfl 3 51 set_keyed under_set (zero_unit _) w.heap.size m.length D rfl HMap.out _ _ rfl HKey.out ?_; rw [hh]))
          go_roundw
          case rel => exact ⟨k + 1, m, D, by omega, by go_num, HN.out, by omega, HOw.out.later (below_alloc _), HMap.out.alloc _, HHas.out, below_step HB.out (below_alloc _)⟩
          case measure => simp [intOf]; omega
        · have HN : Hid (metA [] t = metA (m ++ [x]) (t.drop (k + 1))) := by
            show _ = _
            rw [HMe.out, HD.out, metA, if_neg (fun hh => by rcases hh with hh | hh; exact hx0 hh; exact hin hh)]
          have hh : Maps.has D (.int .i64 x) = false := by rw [HHas.out, decide_eq_false hin]
          have hw : IntKind.i64.wrap (-1 - x) = -1 - x := IntWalk.i64_in _ ⟨by omega, by omega⟩
          have hml2 : m.length < maxLen := by unfold maxLen; omega
          have HZ : Hid (-9223372036854775808 ≤ -1 - x ∧ -1 - x ≤ 9223372036854775807) := ⟨by omega, by omega⟩
          go_wp2_with (first
            | (at_lookup; refine wpList_lookup_own_unit _ rfl _ _ 50 rfl 3 51 set_keyed under_set (zero_unit _) w.heap.size m.length D rfl HMap.out _ _ rfl HKey.out ?_; rw [hh])
            | (at_mapUpdate; refine wpList_mapUpdate_in _ rfl _ _ _ 50 rfl 3 51 set_keyed under_set unitElem w.heap.size m.length D rfl (HMap.out.alloc _) hml2 _ _ _ rfl rfl HKey.out (.agg []) [] unitElem_mk ?_; intro w4 hown4 hturn4; have HM4 : Hid (w4.ownsMap Tryd.prog 3 unitElem w.heap.size (m.length + 1) (D.put (.int .i64 x) (.agg []))) := hown4; have HG4 : Hid ((wr.alloc (.cells #[] 51)).grownBy w4 (some w.heap.size)) := hturn4.grown; clear hown4 hturn4)
            | (at_builtin; refine wpList_append_own _ rfl _ _ 23 rfl w.heap.size 3 i1 _ 1 8 under_ints hi1 hy0 hy1 hy2 rfl (by decide) u4 (m.map fun c => -1 - c).length ((m.map fun c => -1 - c).map I64) rfl (vars_row HOw.out HMap.out HG4.out).2 ⟨w4.heap.size, 0, none⟩ 1 1 [.int .i64 (-1 - x)] rfl rfl (cell_int_new _ _) (by intro u hu; simp at hu; subst hu; rfl) (by rw [List.length_map]; unfold maxLen; omega) (by rw [List.length_map]; omega) (Nat.le_trans (Nat.le_trans HB.out.size (below_alloc _).size) (Nat.le_trans HG4.out.size (below_alloc _).size)) ?_; intro v5 w5 hown5 hgrow5 _))
          have HFin := vars_next (H := Unit) (b := w.heap.size) HB.out HOw.out HMap.out HHas.out HG4.out HM4.out hown5 hgrow5 HZ.out
          clear hown5 hgrow5
          try go_wp2
          go_roundw
          case rel => exact ⟨k + 1, m ++ [x], _, by omega, by go_num, HN.out, by rw [List.length_append, List.length_singleton]; omega, HFin.out.1, HFin.out.2.1, HFin.out.2.2.1, HFin.out.2.2.2⟩
          case measure => simp [intOf]; omega
    · have hke : k = t.length := by omega
      have HF : Hid (varsL t = m.map fun c => -1 - c) := by show _ = _; unfold varsL; rw [HMe.out, List.drop_of_length_le (by omega)]; rfl
      clear hbl
      go_wp2
      go_ret
      exact ⟨_, rfl, by rw [HF.out]; exact HOw.out, HB.out⟩

end Go.Proofs.YtpnkplidhbbliaaDoor

/- What Shift answers. -/
namespace Go.Proofs.YtpnkplidhbbliaaDoor
open Go.RowKit Go.Maps

def isVarB (n : Int) : Bool := decide (0 ≤ n) && decide (n < 1048576)

theorem isVariable_any (n : Int) (w : World) : Calls Tryd.prog 34 #[.int .i64 n] w fun e w' => e = .returned (.bool (isVarB n)) ∧ w' = w := by
  go_enter Tryd.func34, Tryd.ntmps34
  by_cases h : 0 ≤ n
  · have HF : Hid (isVarB n = decide (n < 1048576)) := by show _ = _; unfold isVarB; rw [decide_eq_true h]; rfl
    go_wp2
    go_ret
    exact ⟨ret1b HF.out.symm, rfl⟩
  · have HF : Hid (isVarB n = false) := by show _ = _; unfold isVarB; rw [decide_eq_false h]; rfl
    go_wp2
    go_ret
    exact ⟨ret1b HF.out.symm, rfl⟩

/-- The variables of a row numbered by a function with a state. -/
def renG {σ : Type} (φ : σ → Int → Int × σ) : σ → List Int → List Int × σ
  | s, [] => ([], s)
  | s, c :: r => if c < 0 then (((-1 - (φ s (-1 - c)).1) :: (renG φ (φ s (-1 - c)).2 r).1), (renG φ (φ s (-1 - c)).2 r).2) else (c :: (renG φ s r).1, (renG φ s r).2)

theorem set_midI {α : Type} (a : List α) (x y : α) (b : List α) (k : Nat) (h : a.length = k) : (a ++ x :: b).set k y = a ++ y :: b := by
  subst h
  simp

theorem grown_set {w wr : World} {r : Option Nat} {g : Nat} (h : w.grownBy wr r) (hg : w.heap.size ≤ g) (k : Nat) (u : Value) : w.grownBy (wr.setCell ⟨g, k, none⟩ u) r :=
  ⟨h.os, h.tape, h.output, by simpa [World.setCell] using h.size, fun j hj hne => by
    rw [heap_setCell_other _ _ _ _ (show j ≠ g by omega)]
    exact h.block j hj hne⟩

theorem set_grown (w : World) (g k : Nat) (u : Value) : w.grownBy (w.setCell ⟨g, k, none⟩ u) (some g) :=
  ⟨rfl, rfl, rfl, by simp [World.setCell], fun j _ hne => heap_setCell_other _ _ _ _ (fun e => hne (by rw [e]))⟩

set_option maxRecDepth 100000 in
set_option maxHeartbeats 1600000 in
theorem renumber_any {σ : Type} (St : World → σ → Prop) (φ : σ → Int → Int × σ) (Ok : Int → Prop) (b : Nat) (g : FuncId) (cv v : Value) (t : List Int) (s0 : σ) (w : World) (sz : σ → Nat) (hszs : ∀ s n, sz (φ s n).2 ≤ sz s + 1)
    (hb : b < w.heap.size) (hst : St w s0) (hlen : t.length * 8 ≤ 140737488351232)
    (hkeep : ∀ w1 w2 s r, St w1 s → w1.grownBy w2 r → r ≠ some b → (∀ j, r = some j → w.heap.size ≤ j) → b < w1.heap.size → St w2 s)
    (hread : ∀ w', w.grownBy w' (some b) → Is w' v t)
    (hcall : ∀ (n : Int) (s : σ) (w1 : World), Ok n → St w1 s → sz s < sz s0 + t.length → Calls Tryd.prog g #[.int .i64 n, cv] w1 fun e w2 => e = .returned (.int .i64 (φ s n).1) ∧ St w2 (φ s n).2 ∧ w1.grownBy w2 (some b))
    (hrng : ∀ s n w1, Ok n → St w1 s → sz s < sz s0 + t.length → 0 ≤ (φ s n).1 ∧ (φ s n).1 ≤ 9223372036854775807) (hok : ∀ c ∈ t, c < 0 → Ok (-1 - c)) (eg : ∀ args w, (callFunc g args).run Tryd.prog w = .ok (.enter g args) w) :
    Calls Tryd.prog 35 #[v, .func (.func g) #[] #[cv]] w fun e w' => ∃ v', e = .returned v' ∧ OwI w' w.heap.size v' (renG φ s0 t).1 ∧ St w' (renG φ s0 t).2 ∧ w.grownBy w' (some b) := by
  obtain ⟨i1, hi1, hy0, hy1, hy2⟩ := info_parts info_int
  obtain ⟨ao, cap, rfl, hao, hca, q0⟩ := Row.flat (hread w (World.grownBy.refl _ _))
  unfold maxLen at hca
  have HR : Hid (∀ w', w.grownBy w' (some b) → Is w' (.slice ao t.length cap) t) := hread
  have HK : Hid (∀ w1 w2 s r, St w1 s → w1.grownBy w2 r → r ≠ some b → (∀ j, r = some j → w.heap.size ≤ j) → b < w1.heap.size → St w2 s) := hkeep
  have HC : Hid (∀ (n : Int) (s : σ) (w1 : World), Ok n → St w1 s → sz s < sz s0 + t.length → Calls Tryd.prog g #[.int .i64 n, cv] w1 fun e w2 => e = .returned (.int .i64 (φ s n).1) ∧ St w2 (φ s n).2 ∧ w1.grownBy w2 (some b)) := hcall
  have HRn : Hid (∀ s n w1, Ok n → St w1 s → sz s < sz s0 + t.length → 0 ≤ (φ s n).1 ∧ (φ s n).1 ≤ 9223372036854775807) := hrng
  have HOk : Hid (∀ c ∈ t, c < 0 → Ok (-1 - c)) := hok
  have HSt : Hid (St w s0) := hst
  have HSz : Hid (∀ s n, sz (φ s n).2 ≤ sz s + 1) := hszs
  clear hst hkeep hread hcall hrng hok q0 hszs
  go_enter Tryd.func35, Tryd.ntmps35
  go_wp2_with (first
    | (at_make; refine wpList_make_full _ rfl _ _ 23 rfl w.heap.size 3 i1 (.int .i64 0) 1 under_ints hi1 hy0 hy1 .i64 .i64 _ _ t.length rfl rfl (by omega) (by omega) (by rw [hy2]; omega) (by unfold maxLen; omega) (Nat.le_refl _) ?_; intro w0 hown0 hgrow0))
  have hb0' : Below w.heap.size w w0 := (Below.refl _ _).grown hgrow0 (Nat.le_refl _) (by intro k hk; cases hk)
  have HO : Hid (OwI w0 w.heap.size (.slice (some ⟨w.heap.size, 0, none⟩) t.length t.length) (List.replicate t.length 0)) := OwI.made hown0
  have HB0 : Hid (Below w.heap.size w w0) := hb0'
  have HS0 : Hid (St w0 s0) := HK.out _ _ _ none HSt.out (grown_of_below hb0' _) (by simp) (by simp) hb
  clear hown0 hgrow0 hb0'
  go_loopw [13] (fun i wr => ∃ (k : Nat) (Z : List Int) (s : σ), k ≤ t.length ∧ i = .int .i64 k ∧ Z.length = k ∧ renG φ s0 t = (Z ++ (renG φ s (t.drop k)).1, (renG φ s (t.drop k)).2) ∧ OwI wr w.heap.size (.slice (some ⟨w.heap.size, 0, none⟩) t.length t.length) (Z ++ List.replicate (t.length - k) 0) ∧ St wr s ∧ w.grownBy wr (some b) ∧ sz s ≤ sz s0 + k) (fun i _ => t.length - (intOf i).toNat)
  case atStart => exact ⟨0, [], s0, Nat.zero_le _, rfl, rfl, by simp, by simpa using HO.out, HS0.out, grown_of_below HB0.out _, by omega⟩
  case round =>
    obtain ⟨k, Z, s, hk, rfl, hZ, hren, how, hss, hgr, hszk⟩ := hrel
    have HZ : Hid (Z.length = k) := hZ
    have HRen : Hid (renG φ s0 t = (Z ++ (renG φ s (t.drop k)).1, (renG φ s (t.drop k)).2)) := hren
    have HOw : Hid (OwI wr w.heap.size (.slice (some ⟨w.heap.size, 0, none⟩) t.length t.length) (Z ++ List.replicate (t.length - k) 0)) := how
    have HSs : Hid (St wr s) := hss
    have HG : Hid (w.grownBy wr (some b)) := hgr
    have hsz := hgr.size
    clear hZ hren how hss hgr HO HB0 HS0
    by_cases hlt : k < t.length
    · obtain ⟨g2, off, c, rfl, hx1, hx2, hx3, hx4⟩ := (HR.out wr HG.out).at hlt
      have HDr : Hid (t.drop k = c :: t.drop (k + 1)) := drop_get hx1
      have HMem : Hid (c ∈ t) := List.mem_of_getElem? hx1
      have hw := HOw.out
      rw [show t.length - k = (t.length - (k + 1)) + 1 by omega, List.replicate_succ] at hw
      obtain ⟨hc1, hf1⟩ := hw.at (k := k) (x := 0) (by rw [List.getElem?_append_right (by rw [HZ.out]; exact Nat.le_refl _), HZ.out, Nat.sub_self]; rfl)
      have hq := (hw.put (Below.refl w.heap.size wr) (Nat.le_refl _) (by simp; have := HZ.out; omega) (k := k) (z := c) ⟨hx3, hx4⟩ (ys := Z ++ c :: List.replicate (t.length - (k + 1)) 0) (by rw [set_midI _ _ _ _ _ HZ.out])).1
      have HQ : Hid (OwI (wr.setCell ⟨w.heap.size, k, none⟩ (.int .i64 c)) w.heap.size (.slice (some ⟨w.heap.size, 0, none⟩) t.length t.length) (Z ++ c :: List.replicate (t.length - (k + 1)) 0)) := hq
      have HS1 : Hid (St (wr.setCell ⟨w.heap.size, k, none⟩ (.int .i64 c)) s) := HK.out _ _ _ _ HSs.out (set_grown _ _ _ _) (by simp; omega) (by simp) (by omega)
      have HG1 : Hid (w.grownBy (wr.setCell ⟨w.heap.size, k, none⟩ (.int .i64 c)) (some b)) := grown_set HG.out (Nat.le_refl _) _ _
      clear hq hw hx1 HSs HOw
      by_cases hc0 : c < 0
      · have hwr : IntKind.i64.wrap (-1 - c) = -1 - c := IntWalk.i64_in _ ⟨by omega, by omega⟩
        have HOkc : Hid (Ok (-1 - c)) := HOk.out c HMem.out hc0
        go_wp2_with fail
        refine (HC.out (-1 - c) s _ HOkc.out HS1.out (by omega)).mono ?_
        rintro e w2 ⟨rfl, hs2, hg2⟩
        have hr := HRn.out s (-1 - c) _ HOkc.out HS1.out (by omega)
        obtain ⟨n, hn⟩ : ∃ n, n = (φ s (-1 - c)).1 := ⟨_, rfl⟩
        have HNe : Hid (n = (φ s (-1 - c)).1) := hn
        rw [← hn] at hr ⊢
        have hwn : IntKind.i64.wrap (-1 - n) = -1 - n := IntWalk.i64_in _ ⟨by omega, by omega⟩
        have HO2 : Hid (OwI w2 w.heap.size (.slice (some ⟨w.heap.size, 0, none⟩) t.length t.length) (Z ++ c :: List.replicate (t.length - (k + 1)) 0)) := HQ.out.kept hg2 (.inr (by simp [Value.ownBlock]; omega))
        obtain ⟨hc3, hf3⟩ := HO2.out.at (k := k) (x := c) (by rw [List.getElem?_append_right (by rw [HZ.out]; exact Nat.le_refl _), HZ.out, Nat.sub_self]; rfl)
        have hq2 := (HO2.out.put (Below.refl w.heap.size w2) (Nat.le_refl _) (by simp; have := HZ.out; omega) (k := k) (z := -1 - n) ⟨by omega, by omega⟩ (ys := Z ++ (-1 - n) :: List.replicate (t.length - (k + 1)) 0) (by rw [set_midI _ _ _ _ _ HZ.out])).1
        have HQ2 : Hid (OwI (w2.setCell ⟨w.heap.size, k, none⟩ (.int .i64 (-1 - n))) w.heap.size (.slice (some ⟨w.heap.size, 0, none⟩) t.length t.length) (Z ++ (-1 - n) :: List.replicate (t.length - (k + 1)) 0)) := hq2
        have hsz2 := hg2.size
        simp [World.setCell] at hsz2
        have HS2 : Hid (St (w2.setCell ⟨w.heap.size, k, none⟩ (.int .i64 (-1 - n))) (φ s (-1 - c)).2) := HK.out _ _ _ _ hs2 (set_grown _ _ _ _) (by simp; omega) (by simp) (by omega)
        have HG2 : Hid (w.grownBy (w2.setCell ⟨w.heap.size, k, none⟩ (.int .i64 (-1 - n))) (some b)) := grown_set (grown_trans HG1.out hg2) (Nat.le_refl _) _ _
        have HN : Hid (renG φ s0 t = ((Z ++ [-1 - n]) ++ (renG φ (φ s (-1 - c)).2 (t.drop (k + 1))).1, (renG φ (φ s (-1 - c)).2 (t.drop (k + 1))).2)) := by
          show _ = _
          rw [HRen.out, HDr.out, renG, if_pos hc0, ← HNe.out]
          simp
        clear hq2 hs2 hg2 hn
        go_wp2
        go_roundw
        case rel => exact ⟨k + 1, Z ++ [-1 - n], (φ s (-1 - c)).2, by omega, by go_num, by rw [List.length_append, HZ.out]; rfl, HN.out, by simpa using HQ2.out, HS2.out, HG2.out, by have := HSz.out s (-1 - c); omega⟩
        case measure => simp [intOf]; omega
      · have HN : Hid (renG φ s0 t = ((Z ++ [c]) ++ (renG φ s (t.drop (k + 1))).1, (renG φ s (t.drop (k + 1))).2)) := by
          show _ = _
          rw [HRen.out, HDr.out, renG, if_neg hc0]
          simp
        go_wp2
        go_roundw
        case rel => exact ⟨k + 1, Z ++ [c], s, by omega, by go_num, by rw [List.length_append, HZ.out]; rfl, HN.out, by simpa using HQ.out, HS1.out, HG1.out, by omega⟩
        case measure => simp [intOf]; omega
    · have hke : k = t.length := by omega
      have HF : Hid (renG φ s0 t = (Z, s)) := by
        show _ = _
        rw [HRen.out, List.drop_of_length_le (by omega)]
        simp [renG]
      have HOf : Hid (OwI wr w.heap.size (.slice (some ⟨w.heap.size, 0, none⟩) t.length t.length) Z) := by
        have := HOw.out
        rw [show t.length - k = 0 by omega, List.replicate_zero, List.append_nil] at this
        exact this
      go_wp2
      go_ret
      exact ⟨_, rfl, by rw [HF.out]; exact HOf.out, by rw [HF.out]; exact HSs.out, HG.out⟩

end Go.Proofs.YtpnkplidhbbliaaDoor

/- What Check answers, of a row and of binds. -/
namespace Go.Proofs.YtpnkplidhbbliaaDoor
open Go.RowKit Go.Maps Go.BigFrame

theorem sigGo_ok : ∀ (sig : List Sy) (k : Nat) (r : List Sy), sigGo sig k r = 0 → ArOk r
  | _, _, [] => fun _ s hs => by cases hs
  | sig, k, s :: r => fun h => by
    unfold sigGo at h
    split at h
    · split at h
      · cases h
      · rename_i h2
        split at h
        · cases h
        · intro x hx
          cases hx with
          | head => omega
          | tail _ hx => exact sigGo_ok sig (k + 1) r h x hx
    · cases h

theorem sigE_ok {sig : List Sy} (h : sigE sig = 0) : ArOk sig := by
  unfold sigE at h
  split at h
  · cases h
  · exact sigGo_ok sig 0 sig h

theorem sigGo_range : ∀ (sig : List Sy) (k : Nat) (r : List Sy), 0 ≤ sigGo sig k r ∧ sigGo sig k r ≤ 37
  | _, _, [] => by unfold sigGo; omega
  | sig, k, s :: r => by
    have := sigGo_range sig (k + 1) r
    unfold sigGo
    split
    · split
      · omega
      · split <;> omega
    · omega

def termE (sig : List Sy) (t : List Int) : Int := if sigE sig = 0 then rowE sig t else sigE sig

set_option maxRecDepth 100000 in
set_option maxHeartbeats 800000 in
theorem check_any (sv v : Value) (sig : List Sy) (t : List Int) (w : World) (hs : Sg w sv sig) (h : Is w v t) (hT : Tabs w) (hb : t.length * 8 ≤ 140737488351232) :
    Calls Tryd.prog 29 #[sv, v] w fun e w' => e = .returned (.int .i64 (termE sig t)) ∧ Below w.heap.size w w' := by
  have HS : Hid (Sg w sv sig) := hs
  have HI : Hid (Is w v t) := h
  have HT : Hid (Tabs w) := hT
  clear hs h hT
  go_enter Tryd.func29, Tryd.ntmps29
  go_wp2_with fail
  refine (checkSig_any sv sig w HS.out HT.out).mono ?_
  rintro e w1 ⟨rfl, hb1⟩
  have HB : Hid (Below w.heap.size w w1) := hb1
  have HS1 : Hid (Sg w1 sv sig) := HS.out.kp (Kp.of_below hb1)
  have HI1 : Hid (Is w1 v t) := HI.out.kp (Kp.of_below hb1)
  clear hb1
  by_cases he : sigE sig = 0
  · have HA : Hid (ArOk sig) := sigE_ok he
    have HF : Hid (termE sig t = rowE sig t) := by show _ = _; unfold termE; rw [if_pos he]
    rw [he]
    clear he
    go_wp2_with fail
    refine (checkRow_any sv v sig t w1 HS1.out HI1.out HA.out hb).mono ?_
    rintro e w9 ⟨rfl, hw9⟩
    have hw8 := hw9.symm
    subst hw8
    clear hw9
    go_wp2
    go_ret
    exact ⟨ret1i HF.out.symm, HB.out⟩
  · have HF : Hid (termE sig t = sigE sig) := by show _ = _; unfold termE; rw [if_neg he]
    generalize sigE sig = E at he HF ⊢
    have heb : (E != 0) = true := by simpa using he
    go_wp2
    go_ret
    exact ⟨ret1i HF.out.symm, HB.out⟩

/-- A bind: a variable's number, and a row. -/
abbrev Bd := Int × List Int

def EB (w : World) (g o : Nat) (b : Bd) : Prop := -9223372036854775808 ≤ b.1 ∧ b.1 ≤ 9223372036854775807 ∧ b.2.length * 8 ≤ 140737488351232 ∧ w.cell? ⟨g, o, none⟩ = some (.int .i64 b.1) ∧ ∃ v, w.cell? ⟨g, o + 1, none⟩ = some v ∧ Is w v b.2

theorem EB.kp {w w' : World} (hk : Kp w w') (g o : Nat) (b : Bd) (h : EB w g o b) : EB w' g o b := by
  obtain ⟨h1, h2, h3, h4, v, h5, h6⟩ := h
  exact ⟨h1, h2, h3, hk.cell _ _ h4, v, hk.cell _ _ h5, h6.kp hk⟩

def Bs (w : World) (v : Value) (s : List Bd) : Prop := Row EB 2 w v s
theorem Bs.kp {w w' : World} {v : Value} {s : List Bd} (h : Bs w v s) (hk : Kp w w') : Bs w' v s := Row.imp h hk.size (EB.kp hk)

theorem Bs.at {w : World} {ao : Option Addr} {n cap : Nat} {s : List Bd} (h : Bs w (.slice ao n cap) s) {k : Nat} (hk : k < s.length) :
    ∃ g off x a t c, ao = some ⟨g, off, none⟩ ∧ s[k]? = some (x, t) ∧ w.cell? ⟨g, off + k * 2, none⟩ = some (.int .i64 x) ∧ w.cell? ⟨g, off + k * 2 + 1, none⟩ = some (.slice a t.length c) ∧ Is w (.slice a t.length c) t ∧ -9223372036854775808 ≤ x ∧ x ≤ 9223372036854775807 ∧ t.length * 8 ≤ 140737488351232 := by
  obtain ⟨ao', cap', hv, _, _, hx⟩ := Row.flat h
  simp only [Value.slice.injEq] at hv
  obtain ⟨rfl, rfl, rfl⟩ := hv
  obtain ⟨g, off, ⟨x, t⟩, rfl, hm, h1, h2, h3, h4, v, h5, h6⟩ := hx k hk
  obtain ⟨a, c, rfl, _⟩ := Row.flat h6
  exact ⟨g, off, x, a, t, c, rfl, hm, h4, h5, h6, h1, h2, h3⟩

/-- What is wrong with binds, from a place on. -/
def bindGo (sig : List Sy) : Option Int → List Bd → Int
  | _, [] => 0
  | p, b :: r => if isVarB b.1 then (if p.any (fun y => decide (b.1 ≤ y)) then 41 else if termE sig b.2 = 0 then bindGo sig (some b.1) r else termE sig b.2) else 40

def bindE (sig : List Sy) (s : List Bd) : Int := if sigE sig = 0 then bindGo sig none s else sigE sig

/-- The number of the bind ahead of a place. -/
def ahead (s : List Bd) : Nat → Option Int
  | 0 => none
  | k + 1 => (s[k]?).map (·.1)

set_option maxRecDepth 100000 in
set_option maxHeartbeats 1600000 in
theorem substCheck_any (sv bv : Value) (sig : List Sy) (s : List Bd) (w : World) (hs : Sg w sv sig) (h : Bs w bv s) (hT : Tabs w) :
    Calls Tryd.prog 28 #[sv, bv] w fun e w' => e = .returned (.int .i64 (bindE sig s)) ∧ Below w.heap.size w w' := by
  obtain ⟨so, sc, rfl, hso, hsc, _⟩ := Row.flat h
  unfold maxLen at hsc
  have HS : Hid (Sg w sv sig) := hs
  have HI : Hid (Bs w (.slice so s.length sc) s) := h
  have HT : Hid (Tabs w) := hT
  clear hs h hT
  go_enter Tryd.func28, Tryd.ntmps28
  go_wp2_with fail
  refine (checkSig_any sv sig w HS.out HT.out).mono ?_
  rintro e w1 ⟨rfl, hb1⟩
  have HB : Hid (Below w.heap.size w w1) := hb1
  clear hb1
  by_cases he : sigE sig = 0
  · have HF : Hid (bindE sig s = bindGo sig none s) := by show _ = _; unfold bindE; rw [if_pos he]
    rw [he]
    clear he
    go_wp2
    go_loopw [16] (fun i wr => ∃ k : Nat, k ≤ s.length ∧ i = .int .i64 k ∧ bindGo sig none s = bindGo sig (ahead s k) (s.drop k) ∧ Below w.heap.size w wr) (fun i _ => s.length - (intOf i).toNat)
    case atStart => exact ⟨0, Nat.zero_le _, rfl, rfl, HB.out⟩
    case round =>
      obtain ⟨k, hk, rfl, hgo, hbl⟩ := hrel
      have HG : Hid (bindE sig s = bindGo sig (ahead s k) (s.drop k)) := HF.out.trans hgo
      clear hgo
      by_cases hlt : k < s.length
      · have HSr : Hid (Sg wr sv sig) := HS.out.kp (Kp.of_below hbl)
        have HIr : Hid (Bs wr (.slice so s.length sc) s) := HI.out.kp (Kp.of_below hbl)
        have HTr : Hid (Tabs wr) := HT.out.below hbl
        obtain ⟨g, off, x, ba, t, bc, rfl, hm, hc0, hc1, hit, hx1, hx2, hx3⟩ := HIr.out.at hlt
        have HIt : Hid (Is wr (.slice ba t.length bc) t) := hit
        have HD : Hid (bindE sig s = if isVarB x then (if (ahead s k).any (fun y => decide (x ≤ y)) then 41 else if termE sig t = 0 then bindGo sig (some x) (s.drop (k + 1)) else termE sig t) else 40) := by
          show _ = _
          rw [HG.out, drop_get hm]
          rfl
        have HN : Hid (ahead s (k + 1) = some x) := by show (s[k]?).map (·.1) = _; rw [hm]; rfl
        have HBb : Hid (Below w.heap.size w (wr.alloc (.cells #[.int .i64 x, .slice ba t.length bc] 31))) := below_step hbl (below_alloc _)
        clear hm hit HG
        go_wp2_with fail
        refine (isVariable_any x _).mono ?_
        rintro e wb ⟨rfl, hw9⟩
        obtain ⟨hd0, hd1, hbw⟩ := box2 (w := wr) (x := .int .i64 x) (y := .slice ba t.length bc) (t := 31) (Below.refl _ _)
        rw [← hw9] at hd0 hd1 hbw HBb
        have HW : Hid (Below wr.heap.size wr wb) := hbw
        clear hw9 hbw hc0 hc1
        cases hv : isVarB x
        · have HE : Hid (bindE sig s = 40) := by show _ = _; rw [HD.out, hv]; rfl
          go_wp2
          go_ret
          exact ⟨ret1i HE.out.symm, HBb.out⟩
        have HD2 : Hid (bindE sig s = if (ahead s k).any (fun y => decide (x ≤ y)) then 41 else if termE sig t = 0 then bindGo sig (some x) (s.drop (k + 1)) else termE sig t) := by
          show _ = _; rw [HD.out, hv, if_pos rfl]
        clear HD hv
        by_cases hk0 : k = 0
        · subst hk0
          have HD3 : Hid (bindE sig s = if termE sig t = 0 then bindGo sig (some x) (s.drop 1) else termE sig t) := by show _ = _; rw [HD2.out]; rfl
          clear HD2
          go_wp2
          go_quiet (fail)
          have HBq : Hid (Below wr.heap.size wr (wb.drewN nq)) := below_drewN HW.out _
          go_wp2_with fail
          refine (check_any sv _ sig t _ (HSr.out.kp (Kp.of_below HBq.out)) (HIt.out.kp (Kp.of_below HBq.out)) (HTr.out.below HBq.out) hx3).mono ?_
          rintro e w2 ⟨rfl, hb2⟩
          have HB2 : Hid (Below w.heap.size w w2) := below_step hbl (below_step HBq.out hb2)
          clear hb2
          by_cases hte : termE sig t = 0
          · have HE : Hid (bindGo sig none s = bindGo sig (ahead s (0 + 1)) (s.drop (0 + 1))) := by show _ = _; rw [← HF.out, HD3.out, if_pos hte, HN.out]
            rw [hte]
            clear hte
            go_wp2
            go_roundw
            case rel => exact ⟨0 + 1, by omega, by go_num, HE.out, HB2.out⟩
            case measure => simp [intOf]; omega
          · have HE : Hid (bindE sig s = termE sig t) := by show _ = _; rw [HD3.out, if_neg hte]
            generalize termE sig t = E at hte HE ⊢
            have heb : (E != 0) = true := by simpa using hte
            go_wp2
            go_ret
            exact ⟨ret1i HE.out.symm, HB2.out⟩
        · obtain ⟨j, rfl⟩ : ∃ j, k = j + 1 := ⟨k - 1, by omega⟩
          clear hk0
          obtain ⟨g', off', y, ya, u, yc, hq, hm2, he0, he1, _, hy1, hy2, _⟩ := HIr.out.at (k := j) (by omega)
          obtain ⟨rfl, rfl⟩ : g = g' ∧ off = off' := by simpa using hq
          have HA : Hid (ahead s (j + 1) = some y) := by show (s[j]?).map (·.1) = _; rw [hm2]; rfl
          have hg0 : (0 : Int) < (j : Int) + 1 := by omega
          have hjl : j < s.length := by omega
          have hjw : IntKind.i64.wrap (j : Int) = (j : Int) := IntWalk.i64_in _ ⟨by omega, by omega⟩
          have hf0 := (Kp.of_below HW.out).cell _ _ he0
          clear hm2 hq he1 he0
          by_cases hxy : x ≤ y
          · have HE : Hid (bindE sig s = 41) := by show _ = _; rw [HD2.out, HA.out]; simp [hxy]
            go_wp2
            go_quiet (fail)
            go_wp2
            go_ret
            exact ⟨ret1i HE.out.symm, below_drewN HBb.out _⟩
          · have HD3 : Hid (bindE sig s = if termE sig t = 0 then bindGo sig (some x) (s.drop (j + 1 + 1)) else termE sig t) := by show _ = _; rw [HD2.out, HA.out]; simp [hxy]
            clear HD2
            go_wp2
            go_quiet (fail)
            have HBq : Hid (Below wr.heap.size wr (wb.drewN nq)) := below_drewN HW.out _
            go_wp2_with fail
            refine (check_any sv _ sig t _ (HSr.out.kp (Kp.of_below HBq.out)) (HIt.out.kp (Kp.of_below HBq.out)) (HTr.out.below HBq.out) hx3).mono ?_
            rintro e w2 ⟨rfl, hb2⟩
            have HB2 : Hid (Below w.heap.size w w2) := below_step hbl (below_step HBq.out hb2)
            clear hb2
            by_cases hte : termE sig t = 0
            · have HE : Hid (bindGo sig none s = bindGo sig (ahead s (j + 1 + 1)) (s.drop (j + 1 + 1))) := by show _ = _; rw [← HF.out, HD3.out, if_pos hte, HN.out]
              rw [hte]
              clear hte
              go_wp2
              go_roundw
              case rel => exact ⟨j + 1 + 1, by omega, by go_num, HE.out, HB2.out⟩
              case measure => simp [intOf]; omega
            · have HE : Hid (bindE sig s = termE sig t) := by show _ = _; rw [HD3.out, if_neg hte]
              generalize termE sig t = E at hte HE ⊢
              have heb : (E != 0) = true := by simpa using hte
              go_wp2
              go_ret
              exact ⟨ret1i HE.out.symm, HB2.out⟩
      · have hke : k = s.length := by omega
        subst hke
        have HE : Hid (bindE sig s = 0) := by show _ = _; rw [HG.out, List.drop_length]; rfl
        go_wp2
        go_ret
        exact ⟨ret1i HE.out.symm, hbl⟩
  · have HF : Hid (bindE sig s = sigE sig) := by show _ = _; unfold bindE; rw [if_neg he]
    generalize sigE sig = E at he HF ⊢
    have heb : (E != 0) = true := by simpa using he
    go_wp2
    go_ret
    exact ⟨ret1i HF.out.symm, HB.out⟩

end Go.Proofs.YtpnkplidhbbliaaDoor

/- A map from numbers to values in memory; a row joined to one's own. -/
namespace Go.Proofs.YtpnkplidhbbliaaDoor
open Go.RowKit Go.Maps

theorem join_ints (ty : TypeId) {w : World} {base : Nat} {x u : Value} {xs es : List Int} (ho : OwI w base x xs) (hs : Is w u es) (hb : base ≤ w.heap.size) (hl : (xs.length + es.length) * 8 ≤ 140737488355328) :
    ∃ v' w', (Builtin.append_ #[23, 23] ty #[x, u]).run Tryd.prog w = .ok v' w' ∧ OwI w' base v' (xs ++ es) ∧ w.grownBy w' x.ownBlock := by
  obtain ⟨i0, hi, hz0, hz1, hz2⟩ := info_parts info_int
  have hZ : ZI es := fun k x hk => by
    obtain ⟨ao, cap, rfl, _, _, hx⟩ := Row.flat hs
    obtain ⟨_, _, y, _, hy, h1, h2, _⟩ := hx k (List.getElem?_eq_some_iff.1 hk).1
    rw [hk] at hy
    cases hy
    exact ⟨h1, h2⟩
  have hZ2 : ZI (xs ++ es) := fun k y hk => by
    by_cases hkl : k < xs.length
    · rw [List.getElem?_append_left hkl] at hk
      exact ho.1 k y hk
    · rw [List.getElem?_append_right (by omega)] at hk
      exact hZ _ y hk
  obtain ⟨ao, cap, rfl, hc, hm, hx⟩ := hs
  by_cases h0 : es.length = 0
  · obtain rfl : es = [] := List.eq_nil_of_length_eq_zero h0
    obtain ⟨bo, bc, rfl, hbc, _⟩ := ho.shape
    refine ⟨_, w, run_append_nothing w 23 23 ty 3 i0 under_ints hi _ xs.length bc hbc _ ?_, by rw [List.append_nil]; exact ho, World.grownBy.refl _ _⟩
    cases ao with
    | none => exact Src.ofNil w under_ints _
    | some a => exact Src.ofSlice w under_ints a 0 _ [] (by simp) (fun j u hj => (by simp at hj)) (fun u hu => (by simp at hu))
  · obtain ⟨g', off, rfl, hg, hcell⟩ := hx (by omega)
    obtain ⟨v', w', hr, h2, h3, _, _⟩ := run_append_own_at (P := Tryd.prog) w base 23 ty 3 i0 _ 1 8 under_ints hi hz0 hz1 hz2 rfl (by decide) _ xs.length (xs.map I64) ho.2 ⟨g', off, none⟩ es.length cap (es.map I64) (by simp) (fun j u hj => by
      rw [List.getElem?_map] at hj
      cases hk : es[j]? with
      | none => rw [hk] at hj; simp at hj
      | some x =>
        rw [hk] at hj
        simp at hj
        subst hj
        rw [Addr.add_lit]
        have := (hcell j x hk).2.2
        rw [Nat.mul_one] at this
        exact this) (fun u hu => by obtain ⟨x, _, rfl⟩ := List.mem_map.1 hu; rfl) (by unfold maxLen; omega) (by omega) hb
    refine ⟨v', w', hr, ⟨hZ2, ?_⟩, h3⟩
    rw [List.length_append, List.map_append]
    exact h2

/-- An element, read as the value that it is. -/
def RV (v : Value) : Option (DataW Value × List MemPlace) := some (.held v, [])

/-- Block b of w is the map L. -/
def MapV (w : World) (b : Nat) (L : List (Int × Value)) : Prop :=
  ∃ D : DataW Value, w.ownsMap Tryd.prog 3 RV b L.length D ∧ Maps.size D = L.length ∧
    (∀ k v, L.lookup k = some v → ∀ z, D.atKey (.int .i64 k) z = .held v) ∧ (∀ k, Maps.has D (.int .i64 k) = (L.lookup k).isSome)

theorem MapV.isMap {w : World} {b : Nat} {L : List (Int × Value)} (h : MapV w b L) : ∃ es clock, w.heap[b]? = some (.map es clock) := by
  obtain ⟨D, ⟨es, clock, hb, _⟩, _⟩ := h
  exact ⟨es, clock, hb⟩

theorem MapV.lt {w : World} {b : Nat} {L : List (Int × Value)} (h : MapV w b L) : b < w.heap.size := by
  obtain ⟨es, clock, hb⟩ := h.isMap
  exact (Array.getElem?_eq_some_iff.1 hb).1

theorem MapV.kept {w w' : World} {b : Nat} {L : List (Int × Value)} {row : Option Nat} (h : MapV w b L) (hg : w.grownBy w' row) (hr : row ≠ some b) : MapV w' b L := by
  obtain ⟨D, h1, h2, h3, h4⟩ := h
  exact ⟨D, h1.kept hg (fun e => hr e.symm), h2, h3, h4⟩

theorem MapV.later {w w' : World} {b : Nat} {L : List (Int × Value)} (h : MapV w b L) (hb : Below w.heap.size w w') : MapV w' b L :=
  h.kept (grown_of_below hb none) (by simp)

theorem MapV.made (w : World) : MapV (w.alloc (.map #[] 0)) w.heap.size [] :=
  ⟨DataW.map [], World.ownsMap_made w _ _ _, rfl, fun k v hk => (by cases hk), fun k => (by simp [Maps.has])⟩

theorem MapV.look {w : World} {b : Nat} {L : List (Int × Value)} (h : MapV w b L) {t e : TypeId} {z : Value} (ht : Tryd.prog.underlying t = some (.map 3 e)) (hz : (zeroValue e).run Tryd.prog w = .ok z w) {k : Int} (h1 : -9223372036854775808 ≤ k) (h2 : k ≤ 9223372036854775807) :
    (Instr.lookup t (.map (some b)) (.int .i64 k) true).run Tryd.prog w = .ok (.tuple #[(L.lookup k).getD z, .bool (L.lookup k).isSome]) w := by
  obtain ⟨D, hD, _, ha, hh⟩ := h
  obtain ⟨v, ps, hrun, hv⟩ := hD.look_ok set_keyed ht hz (zd := .held z) (zp := []) rfl (key_int h1 h2)
  rw [hrun, hh]
  have hv2 : D.atKey (.int .i64 k) (.held z) = .held v := by
    simp only [RV, Option.some.injEq, Prod.mk.injEq] at hv
    exact hv.1.symm
  cases hl : L.lookup k with
  | none =>
    rw [atKey_of_not_has (by rw [hh, hl]; rfl)] at hv2
    rw [DataW.held.inj hv2]
    simp only [Option.getD, Option.isSome]
  | some u =>
    rw [ha k u hl] at hv2
    rw [DataW.held.inj hv2]
    simp only [Option.getD, Option.isSome]

theorem MapV.store {w : World} {b : Nat} {L : List (Int × Value)} (h : MapV w b L) {t e : TypeId} (ht : Tryd.prog.underlying t = some (.map 3 e)) {k : Int} (h1 : -9223372036854775808 ≤ k) (h2 : k ≤ 9223372036854775807) (hn : L.lookup k = none) (hL : L.length < maxLen) (v : Value) :
    ∃ w', (Instr.mapUpdate t (.map (some b)) (.int .i64 k) v).run Tryd.prog w = .ok () w' ∧ MapV w' b ((k, v) :: L) ∧ w.grownBy w' (some b) := by
  obtain ⟨D, hD, hs, ha, hh⟩ := h
  have hT := hD.tidy set_keyed
  have hK : WideAt.IsKeyLit (.int .i64 k) := set_keyed.key (key_int h1 h2)
  obtain ⟨w', hrun, r1, r2⟩ := hD.store set_keyed ht hL (key_int h1 h2) (val := v) (d := .held v) (ps := []) rfl
  refine ⟨w', hrun, ⟨D.put (.int .i64 k) (.held v), r1, ?_, fun k' v' hl z => ?_, fun k' => ?_⟩, r2.grown⟩
  · rw [size_put hT, hs, hh, hn]
    rfl
  · rw [List.lookup_cons] at hl
    by_cases e : k' = k
    · subst e
      simp at hl
      subst hl
      exact atKey_put_same hT.isMap hK _ z
    · rw [show (k' == k) = false by simpa using e] at hl
      rw [atKey_put_other (by simpa using e)]
      exact ha k' v' hl z
  · rw [List.lookup_cons]
    by_cases e : k' = k
    · subst e
      rw [has_put_same hT.isMap hK]
      simp
    · rw [has_put_other (by simpa using e), hh, show (k' == k) = false by simpa using e]

theorem MapV.len {w : World} {b : Nat} {L : List (Int × Value)} (h : MapV w b L) {t e : TypeId} (ht : Tryd.prog.underlying t = some (.map 3 e)) (ty : TypeId) : (Builtin.len_ #[t] ty #[.map (some b)]).run Tryd.prog w = .ok (.int .i64 (L.length : Int)) w := by
  obtain ⟨D, h1, h2, _⟩ := h
  have := h1.len ht ty
  rw [h2] at this
  exact this

end Go.Proofs.YtpnkplidhbbliaaDoor
