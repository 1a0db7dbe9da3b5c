/- Texts of the proof, one behind the other. -/
import Derived.Test.YtcoaabgaolblfaaDoorOwn1
import Derived.Maps.Own
import Derived.Maps.OwnOps
import Derived.Maps.OwnSet
import Derived.DeepKeys4
import Derived.Sort.WalkB12
import Derived.Lib.SlicesMore
import Derived.Lib.Walk
import Derived.Deep.LoopGhost
import Derived.Deep.DeepAppendRoom
import Derived.RangeFuncNested
import Derived.RangeFuncBound
import Derived.RangeFuncCalls
import Derived.RangeFuncLeaves
import Derived.RangeFuncBox
import Derived.Shelf.Abstract
import Derived.Shelf.RegionOpen
import Derived.OwnWalkIn
import Derived.TacticsInMore
import Derived.LoopNIn
import Derived.LoopIn
/- What Vars, and the law file's same, answer. -/
namespace Go.Proofs.YtcoaabgaolblfaaDoor
open Go.RowKit Go.Maps

/-- The codes below 0 of a row, each once, as they are met, behind those that were met. -/
def metA : List Int → List Int → List Int
  | m, [] => m
  | m, c :: r => if 0 ≤ c ∨ c ∈ m then metA m r else metA (m ++ [c]) r

def varsL (t : List Int) : List Int := (metA [] t).map fun c => -1 - c

theorem key_int {c : Int} (h1 : -9223372036854775808 ≤ c) (h2 : c ≤ 9223372036854775807) : keyOf Tryd.prog 3 (.int .i64 c) = some (.int .i64 c) := by
  refine keyOf_int_mk (by kernel_rfl) ?_
  have e0 : IntKind.i64.min = -9223372036854775808 := by decide
  have e1 : IntKind.i64.max = 9223372036854775807 := by decide
  simp [Lit.wf, e0, e1]
  omega

theorem Is.range {w : World} {v : Value} {xs : List Int} (h : Is w v xs) : ZI xs := fun k x hk => by
  obtain ⟨ao, cap, rfl, _, _, hx⟩ := Row.flat h
  obtain ⟨_, _, y, _, hy, h1, h2, _⟩ := hx k (List.getElem?_eq_some_iff.1 hk).1
  rw [hk] at hy
  cases hy
  exact ⟨h1, h2⟩

theorem Is.flatI {w : World} {v : Value} {xs : List Int} (h : Is w v xs) : ∃ ao cap, v = .slice ao xs.length cap ∧ xs.length ≤ cap ∧ cap ≤ 9223372036854775807 ∧
    ∀ k : Nat, k < xs.length → ∃ g off x, ao = some ⟨g, off, none⟩ ∧ xs[k]? = some x ∧ w.cell? ⟨g, off + k, none⟩ = some (.int .i64 x) := by
  obtain ⟨ao, cap, rfl, h1, h2, hx⟩ := Row.flat h
  refine ⟨ao, cap, rfl, h1, by unfold maxLen at h2; omega, fun k hk => ?_⟩
  obtain ⟨g, off, x, rfl, hm, _, _, h3⟩ := hx k hk
  rw [Nat.mul_one] at h3
  exact ⟨g, off, x, rfl, hm, h3⟩

theorem drawn_below {w w' : World} {n : Nat} (h : w' = w.drewN n) : Below w.heap.size w w' := by rw [h]; exact below_drewN (Below.refl _ _) n

theorem cell_int_new (w : World) (x : Int) (j : Nat) (u : Value) (hj : [Value.int .i64 x][j]? = some u) : (w.alloc (.cells #[.int .i64 x] 3)).cell? ((⟨w.heap.size, 0, none⟩ : Addr).add j) = some u := by
  rw [Addr.add_lit, Nat.zero_add, cell_of_row _ _ _ _ _ _ (heap_alloc_new _ _)]
  simpa using hj

theorem own_notMap {w : World} {base n : Nat} {e : TypeId} {s b : Nat} {v : Value} {xs : List Value} {es : Array MapEntry} {clock : Nat} (h : w.ownsRow base e s v n xs) (hb : w.heap[b]? = some (.map es clock)) : v.ownBlock = none ∨ v.ownBlock ≠ some b := by
  rcases h.2 with ⟨rfl, _⟩ | ⟨g, cap, cur, rfl, _, hg, _⟩
  · exact .inl rfl
  · refine .inr ?_
    simp only [Value.ownBlock]
    intro e
    cases e
    rw [hg] at hb
    cases hb

/-- The row of numbers, behind a store into the map and the new element. -/
theorem vars_row {H : Type} {w wr w4 : World} {o o' : Obj} {n b : Nat} {R : Value → Option (DataW H × List MemPlace)} {D : DataW H} {x : Value} {zs : List Int} {kt : TypeId} (h : OwI wr w.heap.size x zs) (hm : wr.ownsMap Tryd.prog kt R b n D) (hg : (wr.alloc o).grownBy w4 (some b)) :
    OwI w4 w.heap.size x zs ∧ (w4.alloc o').ownsRow w.heap.size 3 1 x zs.length (zs.map I64) := by
  have hm2 := hm.alloc o
  obtain ⟨es, clock, hb, _⟩ := hm2
  have h2 := h.later (below_alloc o)
  have h3 := h2.kept hg (own_notMap h2.2 hb)
  exact ⟨h3, ownsRow_later h3.2 (below_alloc o')⟩

end Go.Proofs.YtcoaabgaolblfaaDoor

/- What Shift answers. -/
namespace Go.Proofs.YtcoaabgaolblfaaDoor
open Go.RowKit Go.Maps

def isVarB (n : Int) : Bool := decide (0 ≤ n) && decide (n < 1048576)

/-- The variables of a row numbered by a function with a state. -/
def renG {σ : Type} (φ : σ → Int → Int × σ) : σ → List Int → List Int × σ
  | s, [] => ([], s)
  | s, c :: r => if c < 0 then (((-1 - (φ s (-1 - c)).1) :: (renG φ (φ s (-1 - c)).2 r).1), (renG φ (φ s (-1 - c)).2 r).2) else (c :: (renG φ s r).1, (renG φ s r).2)

theorem set_midI {α : Type} (a : List α) (x y : α) (b : List α) (k : Nat) (h : a.length = k) : (a ++ x :: b).set k y = a ++ y :: b := by
  subst h
  simp

theorem grown_set {w wr : World} {r : Option Nat} {g : Nat} (h : w.grownBy wr r) (hg : w.heap.size ≤ g) (k : Nat) (u : Value) : w.grownBy (wr.setCell ⟨g, k, none⟩ u) r :=
  ⟨h.os, h.tape, h.output, by simpa [World.setCell] using h.size, fun j hj hne => by
    rw [heap_setCell_other _ _ _ _ (show j ≠ g by omega)]
    exact h.block j hj hne⟩

theorem set_grown (w : World) (g k : Nat) (u : Value) : w.grownBy (w.setCell ⟨g, k, none⟩ u) (some g) :=
  ⟨rfl, rfl, rfl, by simp [World.setCell], fun j _ hne => heap_setCell_other _ _ _ _ (fun e => hne (by rw [e]))⟩

end Go.Proofs.YtcoaabgaolblfaaDoor

/- What Check answers, of a row and of binds. -/
namespace Go.Proofs.YtcoaabgaolblfaaDoor
open Go.RowKit Go.Maps Go.BigFrame

theorem sigGo_ok : ∀ (sig : List Sy) (k : Nat) (r : List Sy), sigGo sig k r = 0 → ArOk r
  | _, _, [] => fun _ s hs => by cases hs
  | sig, k, s :: r => fun h => by
    unfold sigGo at h
    split at h
    · split at h
      · cases h
      · rename_i h2
        split at h
        · cases h
        · intro x hx
          cases hx with
          | head => omega
          | tail _ hx => exact sigGo_ok sig (k + 1) r h x hx
    · cases h

theorem sigE_ok {sig : List Sy} (h : sigE sig = 0) : ArOk sig := by
  unfold sigE at h
  split at h
  · cases h
  · exact sigGo_ok sig 0 sig h

theorem sigGo_range : ∀ (sig : List Sy) (k : Nat) (r : List Sy), 0 ≤ sigGo sig k r ∧ sigGo sig k r ≤ 37
  | _, _, [] => by unfold sigGo; omega
  | sig, k, s :: r => by
    have := sigGo_range sig (k + 1) r
    unfold sigGo
    split
    · split
      · omega
      · split <;> omega
    · omega

def termE (sig : List Sy) (t : List Int) : Int := if sigE sig = 0 then rowE sig t else sigE sig

set_option maxRecDepth 100000 in
set_option maxHeartbeats 800000 in
theorem check_any (sv v : Value) (sig : List Sy) (t : List Int) (w : World) (hs : Sg w sv sig) (h : Is w v t) (hT : Tabs w) (hb : t.length * 8 ≤ 140737488351232) :
    Calls Tryd.prog 27 #[sv, v] w fun e w' => e = .returned (.int .i64 (termE sig t)) ∧ Below w.heap.size w w' := by
  have HS : Hid (Sg w sv sig) := hs
  have HI : Hid (Is w v t) := h
  have HT : Hid (Tabs w) := hT
  clear hs h hT
  go_enter Tryd.func27, Tryd.ntmps27
  go_wp2_with fail
  refine (checkSig_any sv sig w HS.out HT.out).mono ?_
  rintro e w1 ⟨rfl, hb1⟩
  have HB : Hid (Below w.heap.size w w1) := hb1
  have HS1 : Hid (Sg w1 sv sig) := HS.out.kp (Kp.of_below hb1)
  have HI1 : Hid (Is w1 v t) := HI.out.kp (Kp.of_below hb1)
  clear hb1
  by_cases he : sigE sig = 0
  · have HA : Hid (ArOk sig) := sigE_ok he
    have HF : Hid (termE sig t = rowE sig t) := by show _ = _; unfold termE; rw [if_pos he]
    rw [he]
    clear he
    go_wp2_with fail
    refine (checkRow_any sv v sig t w1 HS1.out HI1.out HA.out hb).mono ?_
    rintro e w9 ⟨rfl, hw9⟩
    have hw8 := hw9.symm
    subst hw8
    clear hw9
    go_wp2
    go_ret
    exact ⟨ret1i HF.out.symm, HB.out⟩
  · have HF : Hid (termE sig t = sigE sig) := by show _ = _; unfold termE; rw [if_neg he]
    generalize sigE sig = E at he HF ⊢
    have heb : (E != 0) = true := by simpa using he
    go_wp2
    go_ret
    exact ⟨ret1i HF.out.symm, HB.out⟩

/-- A bind: a variable's number, and a row. -/
abbrev Bd := Int × List Int

def EB (w : World) (g o : Nat) (b : Bd) : Prop := -9223372036854775808 ≤ b.1 ∧ b.1 ≤ 9223372036854775807 ∧ b.2.length * 8 ≤ 140737488351232 ∧ w.cell? ⟨g, o, none⟩ = some (.int .i64 b.1) ∧ ∃ v, w.cell? ⟨g, o + 1, none⟩ = some v ∧ Is w v b.2

theorem EB.kp {w w' : World} (hk : Kp w w') (g o : Nat) (b : Bd) (h : EB w g o b) : EB w' g o b := by
  obtain ⟨h1, h2, h3, h4, v, h5, h6⟩ := h
  exact ⟨h1, h2, h3, hk.cell _ _ h4, v, hk.cell _ _ h5, h6.kp hk⟩

def Bs (w : World) (v : Value) (s : List Bd) : Prop := Row EB 2 w v s
theorem Bs.kp {w w' : World} {v : Value} {s : List Bd} (h : Bs w v s) (hk : Kp w w') : Bs w' v s := Row.imp h hk.size (EB.kp hk)

theorem Bs.at {w : World} {ao : Option Addr} {n cap : Nat} {s : List Bd} (h : Bs w (.slice ao n cap) s) {k : Nat} (hk : k < s.length) :
    ∃ g off x a t c, ao = some ⟨g, off, none⟩ ∧ s[k]? = some (x, t) ∧ w.cell? ⟨g, off + k * 2, none⟩ = some (.int .i64 x) ∧ w.cell? ⟨g, off + k * 2 + 1, none⟩ = some (.slice a t.length c) ∧ Is w (.slice a t.length c) t ∧ -9223372036854775808 ≤ x ∧ x ≤ 9223372036854775807 ∧ t.length * 8 ≤ 140737488351232 := by
  obtain ⟨ao', cap', hv, _, _, hx⟩ := Row.flat h
  simp only [Value.slice.injEq] at hv
  obtain ⟨rfl, rfl, rfl⟩ := hv
  obtain ⟨g, off, ⟨x, t⟩, rfl, hm, h1, h2, h3, h4, v, h5, h6⟩ := hx k hk
  obtain ⟨a, c, rfl, _⟩ := Row.flat h6
  exact ⟨g, off, x, a, t, c, rfl, hm, h4, h5, h6, h1, h2, h3⟩

/-- What is wrong with binds, from a place on. -/
def bindGo (sig : List Sy) : Option Int → List Bd → Int
  | _, [] => 0
  | p, b :: r => if isVarB b.1 then (if p.any (fun y => decide (b.1 ≤ y)) then 41 else if termE sig b.2 = 0 then bindGo sig (some b.1) r else termE sig b.2) else 40

def bindE (sig : List Sy) (s : List Bd) : Int := if sigE sig = 0 then bindGo sig none s else sigE sig

/-- The number of the bind ahead of a place. -/
def ahead (s : List Bd) : Nat → Option Int
  | 0 => none
  | k + 1 => (s[k]?).map (·.1)

end Go.Proofs.YtcoaabgaolblfaaDoor

/- A map from numbers to values in memory; a row joined to one's own. -/
namespace Go.Proofs.YtcoaabgaolblfaaDoor
open Go.RowKit Go.Maps

theorem join_ints (ty : TypeId) {w : World} {base : Nat} {x u : Value} {xs es : List Int} (ho : OwI w base x xs) (hs : Is w u es) (hb : base ≤ w.heap.size) (hl : (xs.length + es.length) * 8 ≤ 140737488355328) :
    ∃ v' w', (Builtin.append_ #[24, 24] ty #[x, u]).run Tryd.prog w = .ok v' w' ∧ OwI w' base v' (xs ++ es) ∧ w.grownBy w' x.ownBlock := by
  obtain ⟨i0, hi, hz0, hz1, hz2⟩ := info_parts info_int
  have hZ : ZI es := fun k x hk => by
    obtain ⟨ao, cap, rfl, _, _, hx⟩ := Row.flat hs
    obtain ⟨_, _, y, _, hy, h1, h2, _⟩ := hx k (List.getElem?_eq_some_iff.1 hk).1
    rw [hk] at hy
    cases hy
    exact ⟨h1, h2⟩
  have hZ2 : ZI (xs ++ es) := fun k y hk => by
    by_cases hkl : k < xs.length
    · rw [List.getElem?_append_left hkl] at hk
      exact ho.1 k y hk
    · rw [List.getElem?_append_right (by omega)] at hk
      exact hZ _ y hk
  obtain ⟨ao, cap, rfl, hc, hm, hx⟩ := hs
  by_cases h0 : es.length = 0
  · obtain rfl : es = [] := List.eq_nil_of_length_eq_zero h0
    obtain ⟨bo, bc, rfl, hbc, _⟩ := ho.shape
    refine ⟨_, w, run_append_nothing w 24 24 ty 3 i0 under_ints hi _ xs.length bc hbc _ ?_, by rw [List.append_nil]; exact ho, World.grownBy.refl _ _⟩
    cases ao with
    | none => exact Src.ofNil w under_ints _
    | some a => exact Src.ofSlice w under_ints a 0 _ [] (by simp) (fun j u hj => (by simp at hj)) (fun u hu => (by simp at hu))
  · obtain ⟨g', off, rfl, hg, hcell⟩ := hx (by omega)
    obtain ⟨v', w', hr, h2, h3, _, _⟩ := run_append_own_at (P := Tryd.prog) w base 24 ty 3 i0 _ 1 8 under_ints hi hz0 hz1 hz2 rfl (by decide) _ xs.length (xs.map I64) ho.2 ⟨g', off, none⟩ es.length cap (es.map I64) (by simp) (fun j u hj => by
      rw [List.getElem?_map] at hj
      cases hk : es[j]? with
      | none => rw [hk] at hj; simp at hj
      | some x =>
        rw [hk] at hj
        simp at hj
        subst hj
        rw [Addr.add_lit]
        have := (hcell j x hk).2.2
        rw [Nat.mul_one] at this
        exact this) (fun u hu => by obtain ⟨x, _, rfl⟩ := List.mem_map.1 hu; rfl) (by unfold maxLen; omega) (by omega) hb
    refine ⟨v', w', hr, ⟨hZ2, ?_⟩, h3⟩
    rw [List.length_append, List.map_append]
    exact h2

/-- An element, read as the value that it is. -/
def RV (v : Value) : Option (DataW Value × List MemPlace) := some (.held v, [])

/-- Block b of w is the map L. -/
def MapV (w : World) (b : Nat) (L : List (Int × Value)) : Prop :=
  ∃ D : DataW Value, w.ownsMap Tryd.prog 3 RV b L.length D ∧ Maps.size D = L.length ∧
    (∀ k v, L.lookup k = some v → ∀ z, D.atKey (.int .i64 k) z = .held v) ∧ (∀ k, Maps.has D (.int .i64 k) = (L.lookup k).isSome)

theorem MapV.isMap {w : World} {b : Nat} {L : List (Int × Value)} (h : MapV w b L) : ∃ es clock, w.heap[b]? = some (.map es clock) := by
  obtain ⟨D, ⟨es, clock, hb, _⟩, _⟩ := h
  exact ⟨es, clock, hb⟩

theorem MapV.lt {w : World} {b : Nat} {L : List (Int × Value)} (h : MapV w b L) : b < w.heap.size := by
  obtain ⟨es, clock, hb⟩ := h.isMap
  exact (Array.getElem?_eq_some_iff.1 hb).1

theorem MapV.kept {w w' : World} {b : Nat} {L : List (Int × Value)} {row : Option Nat} (h : MapV w b L) (hg : w.grownBy w' row) (hr : row ≠ some b) : MapV w' b L := by
  obtain ⟨D, h1, h2, h3, h4⟩ := h
  exact ⟨D, h1.kept hg (fun e => hr e.symm), h2, h3, h4⟩

theorem MapV.later {w w' : World} {b : Nat} {L : List (Int × Value)} (h : MapV w b L) (hb : Below w.heap.size w w') : MapV w' b L :=
  h.kept (grown_of_below hb none) (by simp)

theorem MapV.made (w : World) : MapV (w.alloc (.map #[] 0)) w.heap.size [] :=
  ⟨DataW.map [], World.ownsMap_made w _ _ _, rfl, fun k v hk => (by cases hk), fun k => (by simp [Maps.has])⟩

theorem MapV.len {w : World} {b : Nat} {L : List (Int × Value)} (h : MapV w b L) {t e : TypeId} (ht : Tryd.prog.underlying t = some (.map 3 e)) (ty : TypeId) : (Builtin.len_ #[t] ty #[.map (some b)]).run Tryd.prog w = .ok (.int .i64 (L.length : Int)) w := by
  obtain ⟨D, h1, h2, _⟩ := h
  have := h1.len ht ty
  rw [h2] at this
  exact this

end Go.Proofs.YtcoaabgaolblfaaDoor

/- Maps whose keys are places. -/
namespace Go.Proofs.YtcoaabgaolblfaaDoor
open Go.RowKit Go.Maps

/-- A node's place in one term, and a node's in another one. -/
abbrev Pl := Int × Int

def plV (k : Pl) : Value := .agg #[.int .i64 k.1, .int .i64 k.2]

def PlOk (k : Pl) : Prop := (-9223372036854775808 ≤ k.1 ∧ k.1 ≤ 9223372036854775807) ∧ (-9223372036854775808 ≤ k.2 ∧ k.2 ≤ 9223372036854775807)

def ansV (b : Bool) : Value := .agg #[.bool b]

theorem rowPlaces : (83 : TypeId) < Tryd.prog.types.size := of_decide_eq_true (by kernel_rfl)

theorem places_fields : (match Tryd.prog.underlying 83 with | some (.struct fs) => fs.all (fun f => f.name != "_") && decide (fs.toList.map (fun f => (f.type, f.offset)) = [(3, 0), (3, 1)]) | _ => false) = true := by kernel_rfl

theorem widePlaces : (match Tryd.prog.underlying 83 with | some (.array _ _) | some (.struct _) => true | _ => false) = true := by kernel_rfl

set_option maxRecDepth 100000 in
theorem placesLaw : WideMaps.KeyLaw Tryd.prog 83 := deep_law_laid laidOut (m := 2) (by omega) rowPlaces (by kernel_rfl) widePlaces

theorem places_keyed : Keyed Tryd.prog 83 := Keyed.of_law placesLaw

theorem under_known : Tryd.prog.underlying 47 = some (.map 83 85) := by kernel_rfl

theorem zero_answer (w : World) : (zeroValue 85).run Tryd.prog w = .ok (ansV false) w := by kernel_rfl

/-- What two places read as. -/
def plL (k : Pl) : Lit := .string (keyBytes [.int .i64 k.1, .int .i64 k.2])

theorem wf64L {x : Int} (h : -9223372036854775808 ≤ x ∧ x ≤ 9223372036854775807) : (Lit.int .i64 x).wf = true := by
  have e0 : IntKind.i64.min = -9223372036854775808 := by decide
  have e1 : IntKind.i64.max = 9223372036854775807 := by decide
  obtain ⟨h1, h2⟩ := h
  simp [Lit.wf, e0, e1]
  omega

theorem keyLits_intL {d : Nat} {x : Int} (h : -9223372036854775808 ≤ x ∧ x ≤ 9223372036854775807) : Tryd.prog.keyLits (d + 1) 3 [.int .i64 x] = some [.int .i64 x] := by
  unfold Program.keyLits
  simp only [Tryd.underlying3]
  rw [if_pos ⟨trivial, wf64L h⟩]

theorem keyOf_places {k : Pl} (h : PlOk k) : keyOf Tryd.prog 83 (plV k) = some (plL k) := by
  have h1 : Tryd.prog.keyType 83 = true := by kernel_rfl
  have h2 : Tryd.prog.cellsOf 83 = 2 := by kernel_rfl
  have h3 : Tryd.prog.cellsOf 3 = 1 := by kernel_rfl
  have h5 : ∃ d, Tryd.prog.types.size + 1 = d + 1 + 1 := ⟨Tryd.prog.types.size - 1, by have : 1 ≤ Tryd.prog.types.size := of_decide_eq_true (by kernel_rfl); omega⟩
  have hsf := places_fields
  cases hu : Tryd.prog.underlying 83 with
  | none => rw [hu] at hsf; cases hsf
  | some d0 =>
    rw [hu] at hsf
    cases d0 with
    | struct fs =>
      simp only [Bool.and_eq_true, decide_eq_true_eq] at hsf
      obtain ⟨hall, hmap⟩ := hsf
      have hf : (plV k).formed Tryd.prog 83 = true := by
        unfold plV
        simp only [Value.formed, hu, h2]
        rfl
      obtain ⟨d, hd⟩ := h5
      have hk : Tryd.prog.keyLits (d + 1 + 1) 83 (plV k).cells.toList = some [.int .i64 k.1, .int .i64 k.2] := by
        unfold Program.keyLits
        simp only [hu]
        rw [if_pos ⟨by rw [h2]; rfl, hall⟩]
        obtain ⟨f0, f1, hfs⟩ : ∃ f0 f1, fs.toList = [f0, f1] := by
          have hlen := congrArg List.length hmap
          rw [List.length_map] at hlen
          generalize fs.toList = l at hlen ⊢
          match l, hlen with
          | [f0, f1], _ => exact ⟨f0, f1, rfl⟩
        rw [hfs] at hmap ⊢
        simp only [List.map_cons, List.map_nil, List.cons.injEq, Prod.mk.injEq, and_true] at hmap
        obtain ⟨⟨t0, o0⟩, t1, o1⟩ := hmap
        simp only [List.mapM_cons, List.mapM_nil, t0, o0, t1, o1, h3, plV, Value.cells, List.drop_zero, List.drop_succ_cons, List.take_succ_cons, List.take_zero]
        rw [keyLits_intL h.1, keyLits_intL h.2]
        rfl
      unfold keyOf
      simp only [hu, h1, hf, Bool.and_self, if_true]
      rw [hd, hk]
      rfl
    | _ => cases hsf

theorem plL_inj {a b : Pl} (ha : PlOk a) (hb : PlOk b) (h : plL a = plL b) : a = b := by
  have h1 := keyOf_places ha
  rw [h] at h1
  have h2 := places_keyed.inj h1 (keyOf_places hb)
  unfold plV at h2
  obtain ⟨a0, a1⟩ := a
  obtain ⟨b0, b1⟩ := b
  simp only [Value.agg.injEq] at h2
  simpa using h2

/-- Block b of w is a map from places to answers. -/
def MapL (w : World) (b : Nat) (L : List (Pl × Bool)) : Prop :=
  ∃ D : DataW Value, w.ownsMap Tryd.prog 83 RV b L.length D ∧ (∀ k v, PlOk k → L.lookup k = some v → ∀ z, D.atKey (plL k) z = .held (ansV v)) ∧ ∀ k, PlOk k → Maps.has D (plL k) = (L.lookup k).isSome

theorem MapL.isMap {w : World} {b : Nat} {L : List (Pl × Bool)} (h : MapL w b L) : ∃ es clock, w.heap[b]? = some (.map es clock) := by
  obtain ⟨D, ⟨es, clock, hb, _⟩, _⟩ := h
  exact ⟨es, clock, hb⟩

theorem MapL.kept {w w' : World} {b : Nat} {L : List (Pl × Bool)} {row : Option Nat} (h : MapL w b L) (hg : w.grownBy w' row) (hr : row ≠ some b) : MapL w' b L := by
  obtain ⟨D, h1, h3, h4⟩ := h
  exact ⟨D, h1.kept hg (fun e => hr e.symm), h3, h4⟩

theorem MapL.later {w w' : World} {b : Nat} {L : List (Pl × Bool)} (h : MapL w b L) (hb : Below w.heap.size w w') : MapL w' b L :=
  h.kept (grown_of_below hb none) (by simp)

theorem MapL.made (w : World) : MapL (w.alloc (.map #[] 0)) w.heap.size [] :=
  ⟨DataW.map [], World.ownsMap_made w _ _ _, fun k v _ hk => (by cases hk), fun k _ => (by simp [Maps.has])⟩

theorem MapL.look {w : World} {b : Nat} {L : List (Pl × Bool)} (h : MapL w b L) {k : Pl} (hk : PlOk k) :
    (Instr.lookup 47 (.map (some b)) (plV k) true).run Tryd.prog w = .ok (.tuple #[ansV ((L.lookup k).getD false), .bool (L.lookup k).isSome]) w := by
  obtain ⟨D, hD, ha, hh⟩ := h
  obtain ⟨v, ps, hrun, hv⟩ := hD.look_ok places_keyed under_known (zero_answer w) (zd := .held (ansV false)) (zp := []) rfl (keyOf_places hk)
  rw [hrun, hh k hk]
  have hv2 : D.atKey (plL k) (.held (ansV false)) = .held v := by
    simp only [RV, Option.some.injEq, Prod.mk.injEq] at hv
    exact hv.1.symm
  cases hl : L.lookup k with
  | none =>
    rw [atKey_of_not_has (by rw [hh k hk, hl]; rfl)] at hv2
    rw [← DataW.held.inj hv2]
    simp only [Option.getD, Option.isSome]
  | some u =>
    rw [ha k u hk hl] at hv2
    rw [← DataW.held.inj hv2]
    simp only [Option.getD, Option.isSome]

theorem MapL.store {w : World} {b : Nat} {L : List (Pl × Bool)} (h : MapL w b L) {k : Pl} (hk : PlOk k) (hn : L.length < maxLen) (v : Bool) :
    ∃ w', (Instr.mapUpdate 47 (.map (some b)) (plV k) (ansV v)).run Tryd.prog w = .ok () w' ∧ MapL w' b ((k, v) :: L) ∧ w.grownBy w' (some b) := by
  obtain ⟨D, hD, ha, hh⟩ := h
  have hT := hD.tidy places_keyed
  have hK : WideAt.IsKeyLit (plL k) := places_keyed.key (keyOf_places hk)
  obtain ⟨w', hrun, r1, r2⟩ := hD.store places_keyed under_known hn (keyOf_places hk) (val := ansV v) (d := .held (ansV v)) (ps := []) rfl
  refine ⟨w', hrun, ⟨D.put (plL k) (.held (ansV v)), r1, fun k' v' hk' hl z => ?_, fun k' hk' => ?_⟩, r2.grown⟩
  · rw [List.lookup_cons] at hl
    by_cases e : k' = k
    · subst e
      simp at hl
      subst hl
      exact atKey_put_same hT.isMap hK _ z
    · have e2 : (k' == k) = false := by simpa using e
      rw [e2] at hl
      rw [atKey_put_other (fun h9 => e (plL_inj hk' hk h9))]
      exact ha k' v' hk' hl z
  · rw [List.lookup_cons]
    by_cases e : k' = k
    · subst e
      rw [has_put_same hT.isMap hK]
      simp
    · have e2 : (k' == k) = false := by simpa using e
      rw [e2, has_put_other (fun h9 => e (plL_inj hk' hk h9)), hh k' hk']

end Go.Proofs.YtcoaabgaolblfaaDoor

/- Rows of trees: cloned, turned round. -/
namespace Go.Proofs.YtcoaabgaolblfaaDoor
open Go.RowKit Go.Maps

section
variable {P : Program} {w w' : World} {ops : Array Oper} {rest : List Oper} {o : Oper} {a : Act} {Q : Exit → Act → World → Prop}

theorem wpList_append_runT (hg : o.guard = none) (s x : Operand) (t : TypeId) (ho : o.op = .call { callee := .builtin .append, args := #[s, x], argTypes := #[t, t] }) (v u : Value) {v' : Value} (hs : a.eval s = v) (hx : a.eval x = u)
    (hr : (Builtin.append_ #[t, t] o.type #[v, u]).run P w = .ok v' w') (h : wpList P ops Q rest (a.put o.dst v') w') : wpList P ops Q (o :: rest) a w := by
  refine wpList_plain hg fun K' hK' => ?_
  unfold Oper.wp
  simp [execOp, ho, resolve, invoke, builtin, hs, hx, hr, Result.andThen]
  exact hK' _ _ h

end

/-- A slice that is read, by its values. -/
def RdV (w : World) (v : Value) (vals : List Value) : Prop :=
  (v = .slice none 0 0 ∧ vals = []) ∨ ∃ g off cap, v = .slice (some ⟨g, off, none⟩) vals.length cap ∧ ∀ (j : Nat) (u : Value), vals[j]? = some u → w.cell? ⟨g, off + j, none⟩ = some u

theorem drawn_below1 (w : World) : Below w.heap.size w w.drew := (Below.refl _ _).drew

theorem set_grownT (w : World) (g k : Nat) (u : Value) : w.grownBy (w.setCell ⟨g, k, none⟩ u) (some g) :=
  ⟨rfl, rfl, rfl, by simp [World.setCell], fun i _ hne => heap_setCell_other _ _ _ _ (by intro e; subst e; exact hne rfl)⟩

/-- A value of an interface. -/
def IfV (u : Value) : Prop := ∃ t x, u = .iface t x

theorem swp_mem {d : Array Value} {i j : Nat} (hi : i < d.size) (hj : j < d.size) {u : Value} (h : u ∈ (Sort.swp d i j).toList) : u ∈ d.toList := by
  unfold Sort.swp at h
  simp only [Array.toList_setIfInBounds] at h
  rcases List.mem_or_eq_of_mem_set h with h | h
  · rcases List.mem_or_eq_of_mem_set h with h | h
    · exact h
    · rw [h, getElem!_pos d j hj]; exact Array.getElem_mem_toList hj
  · rw [h, getElem!_pos d i hi]; exact Array.getElem_mem_toList hi

theorem swp_list {d : Array Value} {i j : Nat} (hi : i < d.size) (hj : j < d.size) : (Sort.swp d i j).toList = (d.toList.set i d[j]!).set j d[i]! := by
  unfold Sort.swp
  simp [getElem!_pos, hi, hj]

end Go.Proofs.YtcoaabgaolblfaaDoor

/- Trees in memory; apply. -/
namespace Go.Proofs.YtcoaabgaolblfaaDoor
open Go.RowKit Go.Maps

/-- A term as a tree, without its symbols. -/
inductive Tr where
  | var : Tr
  | app : List Tr → Tr

mutual
def Tr.size : Tr → Nat
  | .var => 1
  | .app ts => 1 + sizes ts
def sizes : List Tr → Nat
  | [] => 0
  | t :: ts => t.size + sizes ts
end

theorem IfV.one {u : Value} (h : IfV u) : u.oneCell' = true := by obtain ⟨t, x, rfl⟩ := h; rfl

theorem sizes_app : ∀ (a b : List Tr), sizes (a ++ b) = sizes a + sizes b
  | [], b => by simp [sizes]
  | t :: a, b => by simp only [List.cons_append, sizes, sizes_app a b]; omega

theorem sizes_take (ts : List Tr) (k : Nat) : sizes (ts.take k) ≤ sizes ts := by
  have := sizes_app (ts.take k) (ts.drop k)
  rw [List.take_append_drop] at this
  omega

theorem Tr.pos (t : Tr) : 1 ≤ t.size := by
  cases t <;> simp only [Tr.size] <;> omega

theorem len_sizes : ∀ ts : List Tr, ts.length ≤ sizes ts
  | [] => by simp [sizes]
  | t :: ts => by
    have := t.pos
    have := len_sizes ts
    simp only [List.length_cons, sizes]
    omega

theorem RdV.kp {w w' : World} {v : Value} {vals : List Value} (h : RdV w v vals) (hk : Kp w w') : RdV w' v vals := by
  rcases h with h | ⟨g, off, cap, h1, h2⟩
  · exact .inl h
  · exact .inr ⟨g, off, cap, h1, fun j u hj => hk.cell _ _ (h2 j u hj)⟩

theorem RdV.at {w : World} {ao : Option Addr} {n cap : Nat} {vals : List Value} (h : RdV w (.slice ao n cap) vals) {k : Nat} {u : Value} (hk : vals[k]? = some u) : ∃ g off, ao = some ⟨g, off, none⟩ ∧ w.cell? ⟨g, off + k, none⟩ = some u := by
  rcases h with ⟨_, rfl⟩ | ⟨g, off, cap', h1, h2⟩
  · simp at hk
  · simp only [Value.slice.injEq] at h1
    exact ⟨g, off, h1.1, h2 k u hk⟩

end Go.Proofs.YtcoaabgaolblfaaDoor

/- Rows of trees of package lpo: cloned, turned round. -/
namespace Go.Proofs.YtcoaabgaolblfaaDoor
open Go.RowKit Go.Maps

theorem info_treeL : (Tryd.prog.info? 53).map (fun i => (i.zero, i.size, i.bytes)) = some (some .nilIface, 1, 16) := by kernel_rfl
theorem under_treesL : Tryd.prog.underlying 89 = some (.slice 53) := by kernel_rfl

set_option maxRecDepth 100000 in
set_option maxHeartbeats 800000 in
theorem cloneL_any (v : Value) (vals : List Value) (w : World) (h : RdV w v vals) (h1 : ∀ u ∈ vals, u.oneCell' = true) (hl : vals.length * 16 ≤ 140737488355328) :
    Calls Tryd.prog 31 #[v] w fun e w' => ∃ v', e = .returned v' ∧ w'.ownsRow w.heap.size 53 1 v' vals.length vals ∧ Below w.heap.size w w' := by
  obtain ⟨i0, hi, hz0, hz1, hz2⟩ := info_parts info_treeL
  have hq : ∀ (W : World) (a : Option Addr) (n c n' c' : Nat), (binOp .eql 89 (.slice a n c) (.slice none n' c')).run Tryd.prog W = .ok (.bool a.isNone) W := fun W a n c n' c' => Lib.run_eql_slice_nil W _ _ a n c n' c' under_treesL
  rcases h with ⟨rfl, rfl⟩ | ⟨g, off, cap, rfl, hc⟩
  · go_enter Tryd.func31, Tryd.ntmps31
    go_wp2
    go_ret
    exact ⟨_, rfl, World.ownsRow_nil _ _ _ _, Below.refl _ _⟩
  · obtain ⟨v', w', hr, ho, hb⟩ : ∃ v' w', (Builtin.append_ #[89, 89] 89 #[.slice (some ⟨w.heap.size, 0, none⟩) 0 0, .slice (some ⟨g, off, none⟩) vals.length cap]).run Tryd.prog (w.alloc (.cells #[] 53)) = .ok v' w' ∧ w'.ownsRow w.heap.size 53 1 v' vals.length vals ∧ Below w.heap.size w w' := by
      by_cases h0 : vals.length = 0
      · obtain rfl : vals = [] := List.eq_nil_of_length_eq_zero h0
        exact ⟨_, _, run_append_nothing _ 89 89 89 53 i0 under_treesL hi _ 0 0 (Nat.le_refl _) _ (Src.ofSlice _ under_treesL _ 0 _ [] (by simp) (fun j u hj => (by simp at hj)) (fun u hu => (by simp at hu))), empty_row _ (Nat.le_refl _), below_alloc _⟩
      · obtain ⟨v', w', hr, h2, h3, _, _⟩ := run_append_own_at (P := Tryd.prog) (w.alloc (.cells #[] 53)) w.heap.size 89 89 53 i0 _ 1 16 under_treesL hi hz0 hz1 hz2 rfl (by decide) _ 0 [] (empty_row _ (Nat.le_refl _)) ⟨g, off, none⟩ vals.length cap vals (by simp)
          (fun j u hj => by rw [Addr.add_lit]; exact (Kp.of_below (below_alloc _)).cell _ _ (hc j u hj)) h1 (by unfold maxLen; omega) (by omega) (below_alloc _).size
        rw [Nat.zero_add, List.nil_append] at h2
        exact ⟨v', w', hr, h2, grown_below (below_alloc _) h3 (Nat.le_refl _)⟩
    have HR := hid hr
    have HO := hid ho
    have HB := hid hb
    clear hr ho hb hc
    go_enter Tryd.func31, Tryd.ntmps31
    go_wp2_with (first
      | (at_builtin; refine wpList_append_runT rfl _ _ _ rfl _ _ rfl rfl HR.out ?_))
    go_ret
    exact ⟨_, rfl, HO.out, HB.out⟩

set_option maxRecDepth 1000000 in
set_option maxHeartbeats 1600000 in
theorem reverseL_any (v : Value) (vals : List Value) (base : Nat) (w : World) (h : w.ownsRow base 53 1 v vals.length vals) (hif : ∀ u ∈ vals, IfV u) :
    Calls Tryd.prog 32 #[v] w fun e w' => e = .returned (.tuple #[]) ∧ w'.ownsRow base 53 1 v vals.length vals.reverse ∧ w.grownBy w' v.ownBlock := by
  have hsh : ∃ ao cap, v = .slice ao vals.length cap ∧ vals.length ≤ cap ∧ cap ≤ maxLen := by
    rcases h.2 with ⟨rfl, hn⟩ | ⟨g, cap, cur, rfl, hb, hg, hc, hm, hs, ht⟩
    · exact ⟨none, 0, by rw [hn], by omega, by simp [maxLen]⟩
    · exact ⟨_, cap, rfl, hc, hm⟩
  obtain ⟨ao, cap, rfl, hc1, hc2⟩ := hsh
  unfold maxLen at hc2
  have HV := hid h
  have HIf := hid hif
  clear h hif
  have mixed : Tryd.prog.follows .mixedOrders = true := by kernel_rfl
  go_enter Tryd.func32, Tryd.ntmps32
  go_wp2
  go_loopg [2, 3] vals.length (fun k s2 s3 wr => ∃ (i jn : Nat) (jz : Int) (dk : Array Value), s2 = .int .i64 i ∧ s3 = .int .i64 jz ∧ ((i : Int) < jz → jz = jn ∧ jn < vals.length) ∧ (¬ (i : Int) < jz → ¬ i < jn) ∧ jn - i ≤ k ∧
    dk.size = vals.length ∧ (∀ u ∈ dk.toList, IfV u) ∧ wr.ownsRow base 53 1 (.slice ao vals.length cap) vals.length dk.toList ∧ w.grownBy wr (Value.slice ao vals.length cap).ownBlock ∧ Sort.reverseLoop i jn dk = Sort.reverseLoop 0 (vals.length - 1) vals.toArray)
  case atStart => exact ⟨0, vals.length - 1, (vals.length : Int) - 1, vals.toArray, rfl, rfl, fun h => ⟨by omega, by omega⟩, fun h => by omega, by omega, by simp, HIf.out, HV.out, World.grownBy.refl _ _, rfl⟩
  case round =>
    obtain ⟨i, jn, jz, dk, rfl, rfl, h1, h2, hk, hds, hifd, how, hgr, heq⟩ := hrel
    by_cases hlt : (i : Int) < jz
    · obtain ⟨rfl, hjn⟩ := h1 hlt
      have hij : i < jn := by omega
      obtain ⟨g, cp, hv⟩ := own_form (v := .slice ao vals.length cap) how (by omega)
      simp only [Value.slice.injEq] at hv
      obtain ⟨rfl, _, rfl⟩ := hv
      have ci : wr.cell? ⟨g, i, none⟩ = some dk[i]! := by
        rw [World.ownsRow.cellAt how i (by omega)]
        simp [getElem!_pos, show i < dk.size by omega]
      have cj : wr.cell? ⟨g, jn, none⟩ = some dk[jn]! := by
        rw [World.ownsRow.cellAt how jn (by omega)]
        simp [getElem!_pos, show jn < dk.size by omega]
      have fi := World.ownsRow.frozenAt how i
      have fj := World.ownsRow.frozenAt how jn
      have HOw := hid how
      have HGr := hid hgr
      have HEq := hid heq
      have hil : i < vals.length := by omega
      obtain ⟨xi, hxi⟩ : ∃ x, x = dk[i]! := ⟨_, rfl⟩
      obtain ⟨xj, hxj⟩ : ∃ x, x = dk[jn]! := ⟨_, rfl⟩
      rw [← hxi] at ci
      rw [← hxj] at cj
      obtain ⟨ti, yi, hyi⟩ : IfV xi := by rw [hxi, getElem!_pos dk i (by omega)]; exact hifd _ (Array.getElem_mem_toList (by omega))
      obtain ⟨tj, yj, hyj⟩ : IfV xj := by rw [hxj, getElem!_pos dk jn (by omega)]; exact hifd _ (Array.getElem_mem_toList (by omega))
      subst hyi
      subst hyj
      have HXi := hid hxi
      have HXj := hid hxj
      have HIf2 : Hid (∀ u ∈ (Sort.swp dk i jn).toList, IfV u) := fun u hu => hifd u (swp_mem (by omega) (by omega) hu)
      clear hifd
      clear how hgr heq hxi hxj h1 h2
      have hst := (World.ownsRow.stored HOw.out i (.iface tj yj)).1
      have hst2 := (World.ownsRow.stored hst jn (.iface ti yi)).1
      have HS2 : Hid (((wr.setCell ⟨g, i, none⟩ (.iface tj yj)).setCell ⟨g, jn, none⟩ (.iface ti yi)).drew.ownsRow base 53 1 (.slice (some ⟨g, 0, none⟩) vals.length cap) vals.length (Sort.swp dk i jn).toList) := by
        rw [swp_list (by omega) (by omega), ← HXi.out, ← HXj.out]
        exact ownsRow_later hst2 (drawn_below1 _)
      have HG2 : Hid (w.grownBy ((wr.setCell ⟨g, i, none⟩ (.iface tj yj)).setCell ⟨g, jn, none⟩ (.iface ti yi)).drew (some g)) :=
        grown_trans HGr.out (grown_trans (set_grownT wr g i (.iface tj yj)) (grown_trans (set_grownT _ g jn (.iface ti yi)) (grown_of_below (drawn_below1 _) _)))
      clear hst hst2
      go_wp2_with fail
      go_region_o
      go_wp2
      go_roundg (jn - 1 - (i + 1))
      case measure => omega
      case rel =>
        have h9 := HEq.out
        rw [Sort.reverseLoop, if_pos hij] at h9
        exact ⟨i + 1, jn - 1, (jn : Int) - 1, Sort.swp dk i jn, by simp, rfl, fun h => ⟨by omega, by omega⟩, fun h => by omega, Nat.le_refl _, by rw [Sort.size_swp]; exact hds, HIf2.out, HS2.out, HG2.out, h9⟩
    · have hnot := h2 hlt
      have HR : Hid (dk.toList = vals.reverse) := by
        show _ = _
        rw [Sort.reverseLoop, if_neg hnot] at heq
        have h9 := Lib.reverseLoop_reverse vals.toArray
        rw [show vals.toArray.size = vals.length by simp] at h9
        rw [heq, h9]
        simp
      have HOw := hid how
      have HGr := hid hgr
      clear how hgr heq
      go_wp2
      go_end0
      exact ⟨rfl, by rw [← HR.out]; exact HOw.out, HGr.out⟩

end Go.Proofs.YtcoaabgaolblfaaDoor

/- The path order on trees: plain. -/
namespace Go.Proofs.YtcoaabgaolblfaaDoor

/-- A term as a tree. -/
inductive Te where
  | v : Int → Te
  | a : Int → List Te → Te

mutual
def Te.size : Te → Nat
  | .v _ => 1
  | .a _ ts => 1 + sizeL ts
def sizeL : List Te → Nat
  | [] => 0
  | t :: ts => t.size + sizeL ts
end

mutual
def Te.row : Te → List Int
  | .v c => [c]
  | .a c ts => c :: rowL ts
def rowL : List Te → List Int
  | [] => []
  | t :: ts => t.row ++ rowL ts
end

theorem size_pos (t : Te) : 0 < t.size := by
  cases t with
  | v c => simp [Te.size]
  | a c ts => simp only [Te.size]; omega

theorem size_mem : ∀ {ts : List Te} {t : Te}, t ∈ ts → t.size ≤ sizeL ts
  | x :: ts, t, h => by
    simp only [sizeL]
    rcases List.mem_cons.1 h with rfl | h
    · omega
    · have := size_mem h; omega

/-- The path order, by its definition. -/
inductive LG (ab : Int → Int → Bool) : Te → Te → Prop
  | part {f : Int} {ss : List Te} {t : Te} : t ∈ ss → LG ab (.a f ss) t
  | down {f : Int} {ss : List Te} {s t : Te} : s ∈ ss → LG ab s t → LG ab (.a f ss) t
  | up {f g : Int} {ss ts : List Te} : ab f g = true → (∀ t ∈ ts, LG ab (.a f ss) t) → LG ab (.a f ss) (.a g ts)
  | lex {f : Int} {p q r : List Te} {x y : Te} : LG ab x y → (∀ t ∈ p ++ y :: r, LG ab (.a f (p ++ x :: q)) t) → LG ab (.a f (p ++ x :: q)) (.a f (p ++ y :: r))

theorem LG.sub {ab : Int → Int → Bool} : ∀ {s t : Te}, LG ab s t → ∀ {g : Int} {ts : List Te}, t = .a g ts → ∀ u ∈ ts, LG ab s u := by
  intro s t h
  induction h with
  | part hm => intro g ts e u hu; subst e; exact .down hm (.part hu)
  | down hm h ih => intro g ts e u hu; exact .down hm (ih e u hu)
  | up h1 h2 ih => intro g ts e u hu; cases e; exact h2 u hu
  | lex h1 h2 ih1 ih2 => intro g ts e u hu; cases e; exact h2 u hu

theorem mid_lt {p q : List Te} {x : Te} : x.size ≤ sizeL (p ++ x :: q) := size_mem (by simp)

/-- Two rows that part at two places. -/
theorem two_splits {α : Type} : ∀ {p p' r r' : List α} {y y' : α}, p ++ y :: r = p' ++ y' :: r' → (∃ k, p' = p ++ y :: k ∧ r = k ++ y' :: r') ∨ (p = p' ∧ y = y' ∧ r = r') ∨ ∃ k, p = p' ++ y' :: k ∧ r' = k ++ y :: r
  | [], [], r, r', y, y', h => by
    simp only [List.nil_append, List.cons.injEq] at h
    exact .inr (.inl ⟨rfl, h.1, h.2⟩)
  | [], z :: p', r, r', y, y', h => by
    simp only [List.nil_append, List.cons_append, List.cons.injEq] at h
    obtain ⟨rfl, rfl⟩ := h
    exact .inl ⟨p', rfl, rfl⟩
  | z :: p, [], r, r', y, y', h => by
    simp only [List.nil_append, List.cons_append, List.cons.injEq] at h
    obtain ⟨rfl, rfl⟩ := h
    exact .inr (.inr ⟨p, rfl, rfl⟩)
  | z :: p, z' :: p', r, r', y, y', h => by
    simp only [List.cons_append, List.cons.injEq] at h
    obtain ⟨rfl, h⟩ := h
    rcases two_splits h with ⟨k, rfl, rfl⟩ | ⟨rfl, rfl, rfl⟩ | ⟨k, rfl, rfl⟩
    · exact .inl ⟨k, rfl, rfl⟩
    · exact .inr (.inl ⟨rfl, rfl, rfl⟩)
    · exact .inr (.inr ⟨k, rfl, rfl⟩)

theorem LG.trans {ab : Int → Int → Bool} (ht : ∀ f g h, ab f g = true → ab g h = true → ab f h = true) : ∀ (n : Nat) {s t u : Te}, s.size + t.size + u.size ≤ n → LG ab s t → LG ab t u → LG ab s u
  | 0, s, _, _, hn, _, _ => by have := size_pos s; omega
  | n + 1, s, t, u, hn, h1, h2 => by
    have hu1 : ∀ {h : Int} {us : List Te}, u = .a h us → (∀ z ∈ us, LG ab t z) → ∀ z ∈ us, LG ab s z := fun {h us} e hz z hm => by
      refine LG.trans ht n ?_ h1 (hz z hm)
      have := size_mem hm
      subst e
      simp only [Te.size] at hn
      omega
    have hdn : ∀ {g : Int} {ts : List Te} {t' : Te}, t = .a g ts → t' ∈ ts → LG ab t' u → LG ab s u := fun {g ts t'} e hm h => by
      refine LG.trans ht n ?_ (h1.sub e t' hm) h
      have := size_mem hm
      subst e
      simp only [Te.size] at hn
      omega
    have hsd : ∀ {f : Int} {ss : List Te} {s' : Te}, s = .a f ss → s' ∈ ss → LG ab s' t → LG ab s u := fun {f ss s'} e hm h => by
      have h9 : LG ab s' u := by
        refine LG.trans ht n ?_ h h2
        have := size_mem hm
        subst e
        simp only [Te.size] at hn
        omega
      subst e
      exact .down hm h9
    cases h2 with
    | part hm => exact h1.sub rfl _ hm
    | down hm h => exact hdn rfl hm h
    | up hab hall =>
      have hz := hu1 rfl hall
      cases h1 with
      | part hm => exact .down hm (.up hab hall)
      | down hm h => exact hsd rfl hm h
      | up hfg _ => exact .up (ht _ _ _ hfg hab) hz
      | lex _ _ => exact .up hab hz
    | lex hxy hall =>
      have hz := hu1 rfl hall
      rename_i f2 p2 q2 r2 x2 y2
      generalize e1 : p2 ++ x2 :: q2 = ts at h1
      cases h1 with
      | part hm => subst e1; exact .down hm (.lex hxy hall)
      | down hm h => subst e1; exact hsd rfl hm h
      | up hfg _ => exact .up hfg hz
      | lex hxy' hal' =>
        rename_i p1 q1 r1 x1 y1
        rcases two_splits e1 with ⟨k, rfl, rfl⟩ | ⟨rfl, rfl, rfl⟩ | ⟨k, rfl, rfl⟩
        · have e2 : (p2 ++ x2 :: k) ++ x1 :: q1 = p2 ++ x2 :: (k ++ x1 :: q1) := by simp
          rw [e2] at hz ⊢
          exact .lex hxy hz
        · refine .lex (LG.trans ht n ?_ hxy' hxy) hz
          have k1 := mid_lt (p := p2) (q := q1) (x := x1)
          have k2 := mid_lt (p := p2) (q := q2) (x := x2)
          have k3 := mid_lt (p := p2) (q := r2) (x := y2)
          simp only [Te.size] at hn
          omega
        · have e2 : (p1 ++ y1 :: k) ++ y2 :: r2 = p1 ++ y1 :: (k ++ y2 :: r2) := by simp
          rw [e2] at hz ⊢
          exact .lex hxy' hz

theorem LG.irrefl {ab : Int → Int → Bool} (ht : ∀ f g h, ab f g = true → ab g h = true → ab f h = true) (hi : ∀ f, ab f f = false) : ∀ (n : Nat) {s : Te}, s.size ≤ n → ¬ LG ab s s
  | 0, s, hn => by have := size_pos s; omega
  | n + 1, s, hn => fun h0 => by
    have key : ∀ {f : Int} {ss : List Te} {s' : Te}, s = .a f ss → s' ∈ ss → LG ab s' s → False := fun {f ss s'} e hm h9 => by
      subst e
      refine LG.irrefl ht hi n ?_ (LG.trans ht _ (Nat.le_refl _) h9 (.part hm))
      have := size_mem hm
      simp only [Te.size] at hn
      omega
    have aux : ∀ t, LG ab s t → s = t → False := by
      intro t h e
      cases h with
      | part hm =>
        have := size_mem hm
        rw [← e] at this
        simp only [Te.size] at this
        omega
      | down hm h => exact key rfl hm (e ▸ h)
      | up hab _ =>
        cases e
        rw [hi] at hab
        cases hab
      | lex h _ =>
        rename_i f p q r x y _
        simp only [Te.a.injEq, true_and] at e
        rcases two_splits e with ⟨k, e1, _⟩ | ⟨_, rfl, _⟩ | ⟨k, e1, _⟩
        · exact absurd (congrArg List.length e1) (by simp)
        · refine LG.irrefl ht hi n ?_ h
          have := mid_lt (p := p) (q := q) (x := x)
          simp only [Te.size] at hn
          omega
        · exact absurd (congrArg List.length e1) (by simp)
    exact aux s h0 rfl

/-- Of the first two that are unlike the one is greater. -/
def FirstG (ab : Int → Int → Bool) : List Te → List Te → Prop
  | x :: xs, y :: ys => (x = y ∧ FirstG ab xs ys) ∨ (x ≠ y ∧ LG ab x y)
  | _, _ => False

theorem firstG_iff {ab : Int → Int → Bool} (hn : ∀ s, ¬ LG ab s s) : ∀ {ss ts : List Te}, FirstG ab ss ts ↔ ∃ p x q y r, ss = p ++ x :: q ∧ ts = p ++ y :: r ∧ LG ab x y
  | [], ts => by
    simp only [FirstG, false_iff]
    rintro ⟨p, x, q, y, r, h, _⟩
    simp at h
  | x :: xs, [] => by
    simp only [FirstG, false_iff]
    rintro ⟨p, x, q, y, r, _, h, _⟩
    simp at h
  | x :: xs, y :: ys => by
    simp only [FirstG]
    constructor
    · rintro (⟨rfl, h⟩ | ⟨_, h⟩)
      · obtain ⟨p, x', q, y', r, rfl, rfl, h9⟩ := (firstG_iff hn).1 h
        exact ⟨x :: p, x', q, y', r, rfl, rfl, h9⟩
      · exact ⟨[], x, xs, y, ys, rfl, rfl, h⟩
    · rintro ⟨p, x', q, y', r, e1, e2, h⟩
      cases p with
      | nil =>
        simp only [List.nil_append, List.cons.injEq] at e1 e2
        obtain ⟨rfl, rfl⟩ := e1
        obtain ⟨rfl, rfl⟩ := e2
        exact .inr ⟨fun e => hn _ (e ▸ h), h⟩
      | cons z p =>
        simp only [List.cons_append, List.cons.injEq] at e1 e2
        obtain ⟨rfl, rfl⟩ := e1
        obtain ⟨rfl, rfl⟩ := e2
        exact .inl ⟨rfl, (firstG_iff hn).2 ⟨p, x', q, y', r, rfl, rfl, h⟩⟩

/-- One look. -/
theorem LG.step {ab : Int → Int → Bool} (hn : ∀ s, ¬ LG ab s s) (hi : ∀ f, ab f f = false) {f : Int} {ss : List Te} {t : Te} :
    LG ab (.a f ss) t ↔ (∃ s ∈ ss, s = t ∨ LG ab s t) ∨ ∃ g ts, t = .a g ts ∧ ((f = g ∧ FirstG ab ss ts) ∨ (f ≠ g ∧ ab f g = true)) ∧ ∀ u ∈ ts, LG ab (.a f ss) u := by
  constructor
  · intro h
    cases h with
    | part hm => exact .inl ⟨_, hm, .inl rfl⟩
    | down hm h => exact .inl ⟨_, hm, .inr h⟩
    | up hab hall => exact .inr ⟨_, _, rfl, .inr ⟨(fun e => by rw [e, hi] at hab; exact absurd hab (by decide)), hab⟩, hall⟩
    | lex h hall => exact .inr ⟨_, _, rfl, .inl ⟨rfl, (firstG_iff hn).2 ⟨_, _, _, _, _, rfl, rfl, h⟩⟩, hall⟩
  · rintro (⟨s, hm, rfl | h⟩ | ⟨g, ts, rfl, ⟨rfl, h⟩ | ⟨_, h⟩, hall⟩)
    · exact .part hm
    · exact .down hm h
    · obtain ⟨p, x, q, y, r, rfl, rfl, h9⟩ := (firstG_iff hn).1 h
      exact .lex h9 hall
    · exact .up h hall

theorem LG.var {ab : Int → Int → Bool} {c : Int} {t : Te} : ¬ LG ab (.v c) t := fun h => by cases h

/-- More pairs take nothing away. -/
theorem LG.more {ab ab' : Int → Int → Bool} (h : ∀ f g, ab f g = true → ab' f g = true) {s t : Te} (hg : LG ab s t) : LG ab' s t := by
  induction hg with
  | part hm => exact .part hm
  | down hm _ ih => exact .down hm ih
  | up hab _ ih => exact .up (h _ _ hab) ih
  | lex _ _ ih1 ih2 => exact .lex ih1 ih2

mutual
/-- What a tree becomes. -/
def Te.lay (f : Int → Te) : Te → Te
  | .v c => f c
  | .a c ts => .a c (layT f ts)
def layT (f : Int → Te) : List Te → List Te
  | [] => []
  | t :: ts => t.lay f :: layT f ts
end

theorem layT_map (f : Int → Te) : ∀ ts, layT f ts = ts.map (Te.lay f)
  | [] => rfl
  | t :: ts => by simp only [layT, List.map_cons, layT_map f ts]

/-- Kept by binds. -/
theorem LG.laid {ab : Int → Int → Bool} (f : Int → Te) {s t : Te} (hg : LG ab s t) : LG ab (s.lay f) (t.lay f) := by
  induction hg with
  | part hm => simp only [Te.lay, layT_map]; exact .part (List.mem_map_of_mem hm)
  | down hm _ ih => simp only [Te.lay, layT_map]; exact .down (List.mem_map_of_mem hm) ih
  | up hab _ ih =>
    simp only [Te.lay, layT_map] at ih ⊢
    refine .up hab (fun u hu => ?_)
    obtain ⟨t, ht, rfl⟩ := List.mem_map.1 hu
    exact ih t ht
  | lex _ _ ih1 ih2 =>
    simp only [Te.lay, layT_map, List.map_append, List.map_cons] at ih1 ih2 ⊢
    refine .lex ih1 (fun u hu => ?_)
    rw [← List.map_cons, ← List.map_append] at hu
    obtain ⟨t, ht, rfl⟩ := List.mem_map.1 hu
    exact ih2 t ht

/-- Kept by what stands around. -/
theorem LG.round {ab : Int → Int → Bool} {f : Int} {p q : List Te} {s t : Te} (h : LG ab s t) : LG ab (.a f (p ++ s :: q)) (.a f (p ++ t :: q)) := by
  refine .lex h (fun u hu => ?_)
  rw [List.mem_append, List.mem_cons] at hu
  rcases hu with hu | rfl | hu
  · exact .part (by simp [hu])
  · exact .down (by simp) h
  · exact .part (by simp [hu])

/-- Trees without variables, of symbols of S with their arities. -/
inductive Grd (S : Int → Prop) (ar : Int → Nat) : Te → Prop
  | mk {c : Int} {ts : List Te} : S c → ts.length = ar c → (∀ t ∈ ts, Grd S ar t) → Grd S ar (.a c ts)

theorem first_unlike : ∀ {ss ts : List Te}, ss.length = ts.length → ss ≠ ts → ∃ p x q y r, ss = p ++ x :: q ∧ ts = p ++ y :: r ∧ x ≠ y
  | [], [], _, h => absurd rfl h
  | x :: xs, y :: ys, hl, h => by
    by_cases e : x = y
    · subst e
      obtain ⟨p, x', q, y', r, rfl, rfl, h9⟩ := first_unlike (ss := xs) (ts := ys) (by simpa using hl) (fun e => h (by rw [e]))
      exact ⟨x :: p, x', q, y', r, rfl, rfl, h9⟩
    · exact ⟨[], x, xs, y, ys, rfl, rfl, e⟩

/-- Any two trees without variables are told apart. -/
theorem LG.total {ab : Int → Int → Bool} {ar : Int → Nat} {S : Int → Prop} (hab : ∀ f g, S f → S g → f ≠ g → ab f g = true ∨ ab g f = true) : ∀ (n : Nat) {s t : Te}, s.size + t.size ≤ n → Grd S ar s → Grd S ar t → s ≠ t → LG ab s t ∨ LG ab t s
  | 0, s, t, hn, _, _, _ => by have := size_pos s; omega
  | n + 1, s, t, hn, hs, ht, hne => by
    have hs0 := hs
    have ht0 := ht
    cases hs with
    | mk hSf hlf hss =>
    rename_i f ss
    cases ht with
    | mk hSg hlg hts =>
    rename_i g ts
    simp only [Te.size] at hn
    by_cases h1 : ∃ t' ∈ ts, t' = .a f ss ∨ LG ab t' (.a f ss)
    · obtain ⟨t', hm, rfl | h⟩ := h1
      · exact .inr (.part hm)
      · exact .inr (.down hm h)
    · by_cases h2 : ∃ s' ∈ ss, s' = .a g ts ∨ LG ab s' (.a g ts)
      · obtain ⟨s', hm, rfl | h⟩ := h2
        · exact .inl (.part hm)
        · exact .inl (.down hm h)
      · have hall1 : ∀ t' ∈ ts, LG ab (.a f ss) t' := fun t' hm => by
          have := size_mem hm
          rcases LG.total hab n (s := .a f ss) (t := t') (by simp only [Te.size]; omega) hs0 (hts t' hm) (fun e => h1 ⟨t', hm, .inl e.symm⟩) with h | h
          · exact h
          · exact absurd ⟨t', hm, .inr h⟩ h1
        have hall2 : ∀ s' ∈ ss, LG ab (.a g ts) s' := fun s' hm => by
          have := size_mem hm
          rcases LG.total hab n (s := .a g ts) (t := s') (by simp only [Te.size]; omega) ht0 (hss s' hm) (fun e => h2 ⟨s', hm, .inl e.symm⟩) with h | h
          · exact h
          · exact absurd ⟨s', hm, .inr h⟩ h2
        by_cases e : f = g
        · subst e
          obtain ⟨p, x, q, y, r, rfl, rfl, hxy⟩ := first_unlike (hlf.trans hlg.symm) (fun e => hne (by rw [e]))
          have k1 := mid_lt (p := p) (q := q) (x := x)
          have k2 := mid_lt (p := p) (q := r) (x := y)
          rcases LG.total hab n (s := x) (t := y) (by omega) (hss x (by simp)) (hts y (by simp)) hxy with h | h
          · exact .inl (.lex h hall1)
          · exact .inr (.lex h hall2)
        · rcases hab f g hSf hSg e with h | h
          · exact .inl (.up h hall1)
          · exact .inr (.up h hall2)

end Go.Proofs.YtcoaabgaolblfaaDoor

/- A range over a function whose rounds are numbered: round k is handed just what the iterator hands it then. -/
namespace Go.Proofs.YtcoaabgaolblfaaDoor
open Go.RowKit Go.Maps Go.Shelf

attribute [local go_sem] Oper.semAt_some

section
variable {P : Program} {F : Fence} {n : Nat}

/-- Rounds by their numbers. -/
theorem range_rounds {g : Operand} {ps : Array Tmp} {assign body : Code} {Q : Exit → Act → World → Prop} {a : Act} {w : World} (hro : F.round = none) (h1 : 1 ≤ n) {gf : Nat} {lb : Array Value}
    (hg : a.eval g = .func (.func gf) #[] lb) (hFg : F.fn gf) (eg : ∀ args w, (callFunc gf args).run P w = .ok (.enter gf args) w)
    (args : Nat → Array Value) (N : Nat) (hps : ∀ k, (args k).size = ps.size) (Rd : World → Prop) (I : Nat → World → Prop)
    (hput : ∀ (k : Nat) (W : World) (l : Nat) (o o' : Obj), w.heap.size ≤ l → W.heap[l]? = some o → o.isCells = false → I k W → I k (W.putObj l o'))
    (h0 : ∀ r : Loop, I 0 ((w.alloc (.deferred (some []))).alloc (.loop r))) (hRd : ∀ k W, I k W → Rd W)
    (hseq : ∀ (l : Nat) (J : Nat → World → Prop) (W : World), (∀ k W1, J k W1 → Rd W1) → (∀ k W1, k < N → J k W1 → YieldAt F (n - 1 - 1) P l (args k) W1 fun e W' => e = .returned (.bool true) ∧ J (k + 1) W') → J 0 W →
      CallsIn F (n - 1) P gf (#[.func (.yield l) #[] #[]] ++ lb) W fun e W' => (∃ v, e = .returned v) ∧ J N W')
    (a1 : Nat → Act)
    (hassign : ∀ (l k : Nat) (W : World) (K : Act → World → Prop), K (a1 k) W → assign.wpIn (F.inRound l) (n - 1 - 1) P (Exit.then K (fun _ _ _ => False)) { tmps := (ps.zip (args k)).foldl (fun t (p, v) => t.setIfInBounds p v) a.tmps, defers := [] } W)
    (hbody : ∀ (l k : Nat) (W : World), k < N → I k W → body.wpIn (F.inRound l) (n - 1 - 1) P (fun e _ W' => e = .normal ∧ KeepsFrom w.heap.size W W' ∧ I (k + 1) W') (a1 k) W)
    (hdone : ∀ (D : Nat) (W : World), w.heap.size ≤ D → I N W → W.heap[D]? = some (.deferred (some [])) → Q .normal { a with defers := { target := .collected D, args := #[] } :: a.defers } W) :
    (Code.rangeFunc g ps assign body).wpIn F n P Q a w := by
  refine wpIn_rangeFunc fun fn hfn => ?_
  rw [hro]
  -- the record of the loop, as it stands between two rounds and in one
  obtain ⟨R, hR⟩ : ∃ R : LoopState → Loop, R = fun s => { state := s, pending := none, fn, tmps := a.tmps, params := ps, assign, body, defers := w.heap.size } := ⟨_, rfl⟩
  have hRs : ∀ s, (R s).state = s := fun s => by rw [hR]
  have hRb : ∀ s s', { R s with state := s' } = R s' := fun s s' => by rw [hR]
  obtain ⟨l, hl⟩ : ∃ l, l = w.heap.size + 1 := ⟨_, rfl⟩
  obtain ⟨W1, hW1⟩ : ∃ W, W = (w.alloc (.deferred (some []))).alloc (.loop (R .ready)) := ⟨_, rfl⟩
  have hl1 : W1.heap[l]? = some (.loop (R .ready)) := by
    rw [hW1, hl]
    have := World.alloc_heap_new (w.alloc (.deferred (some []))) (.loop (R .ready))
    rwa [World.size_alloc] at this
  have hd1 : W1.heap[w.heap.size]? = some (.deferred (some [])) := by
    rw [hW1]
    exact (Below.heap_alloc _ _ _ (by simp)).trans (World.alloc_heap_new w _)
  refine ⟨l, [{ target := .collected w.heap.size, args := #[] }], W1, { target := .fn (.func gf) lb, args := #[.func (.yield l) #[] #[]] }, W1, gf, #[.func (.yield l) #[] #[]] ++ lb, W1, ?_, ?_, ?_, ?_, fun _ => h1, ?_⟩
  · rw [hl, hW1, hR]
    exact run_enterLoop_outer _ _ _ _ _
  · simp only [resolve, hg]
    simp [go_sem]
  · intro f' hf'
    simp [Target.leads] at hf'
    subst hf'
    exact hFg
  · simp [invoke, go_sem, eg]
  · refine (hseq l (fun k W => I k W ∧ W.heap[l]? = some (.loop (R .ready)) ∧ W.heap[w.heap.size]? = some (.deferred (some []))) W1 (fun k W h => hRd k W h.1) ?_ ⟨by rw [hW1]; exact h0 _, hl1, hd1⟩).mono ?_
    · rintro k W hk ⟨hi, hL, hD⟩
      have hlt := (Array.getElem?_eq_some_iff.1 hL).1
      have hy := run_yield (P := P) (args := args k) hL (by rw [hR]; exact hps k)
      refine ⟨_, _, _, _, hy, ?_⟩
      rw [show (R .ready).assign = assign by rw [hR], show (R .ready).body = body by rw [hR], show (R .ready).fn = fn by rw [hR], show (R .ready).tmps = a.tmps by rw [hR], show (R .ready).params = ps by rw [hR]]
      refine roundIn_of_wpIn hfn (hassign l k W _ ⟨_, run_beginRound hL (hRs _), ?_⟩)
      rw [hRb]
      have hL2 : (W.putObj l (.loop (R .busy))).heap[l]? = some (.loop (R .busy)) := World.putObj_heap_same hlt
      have hD2 : (W.putObj l (.loop (R .busy))).heap[w.heap.size]? = some (.deferred (some [])) := (World.putObj_heap_other (by omega)).trans hD
      refine wpIn_mono (hbody l k _ hk (hput k W l _ _ (by omega) hL rfl hi)) ?_
      rintro e a3 W3 ⟨rfl, hkf, hi3⟩
      have hL3 := hkf.same _ _ (show w.heap.size ≤ l by omega) hL2 rfl
      have hD3 := hkf.same _ _ (Nat.le_refl _) hD2 rfl
      have he := run_endRound (P := P) none hL3
      refine ⟨_, _, he, rfl, ?_, ?_, ?_⟩
      · exact hput _ W3 l _ _ (by omega) hL3 rfl hi3
      · rw [World.putObj_heap_same (Array.getElem?_eq_some_iff.1 hL3).1]
        simp only [Option.isNone_none, if_true]
        rw [hR]
      · exact (World.putObj_heap_other (by omega)).trans hD3
    · rintro e W2 ⟨⟨v, rfl⟩, hi, hL, hD⟩
      have he := run_endLoop (P := P) hL (by rw [hRs]; simp)
      rw [show (R .ready).pending = none by rw [hR]] at he
      exact ⟨none, _, he, hdone _ _ (Nat.le_refl _) (hput _ W2 l _ _ (by omega) hL rfl hi) ((World.putObj_heap_other (by omega)).trans hD)⟩

end

end Go.Proofs.YtcoaabgaolblfaaDoor

/- slices.Backward over a row of numbers. -/
namespace Go.Proofs.YtcoaabgaolblfaaDoor
open Go.RowKit Go.Maps Go.Shelf

attribute [local go_sem] Oper.semAt_some

/-- What round k is handed. -/
def backA (t : List Int) (k : Nat) : Array Value := #[.int .i64 ((t.length - 1 - k : Nat) : Int), .int .i64 (t.reverse[k]?.getD 0)]

/-- What the iterator reads. -/
def BackR (Bs b off cap : Nat) (t : List Int) (W : World) : Prop := W.cell? ⟨Bs, 0, none⟩ = some (.slice (some ⟨b, off, none⟩) t.length cap) ∧ ∀ (j : Nat) (c : Int), t[j]? = some c → W.cell? ⟨b, off + j, none⟩ = some (.int .i64 c)

set_option maxRecDepth 100000 in
set_option maxHeartbeats 1600000 in
theorem back_rounds (F : Fence) (n : Nat) (hF : F.fn 46) (hro : F.round = none) (hn : 1 ≤ n) (Bs b off cap : Nat) (t : List Int) (ht : t.length * 8 ≤ 140737488351232) (_hcap : t.length ≤ cap) (_hcm : cap ≤ 9223372036854775807) (l : Nat) (J : Nat → World → Prop) (W : World)
    (hR : ∀ k W1, J k W1 → BackR Bs b off cap t W1) (hY : ∀ k W1, k < t.length → J k W1 → YieldAt F (n - 1) Tryd.prog l (backA t k) W1 fun e W' => e = .returned (.bool true) ∧ J (k + 1) W') (h0 : J 0 W) :
    CallsIn F n Tryd.prog 46 (#[.func (.yield l) #[] #[]] ++ #[.pointer (some ⟨Bs, 0, none⟩)]) W fun e W' => (∃ v, e = .returned v) ∧ J t.length W' := by
  refine callsIn_of_wp Tryd.func46 rfl hF ?_ hro
  simp only [Tryd.ntmps46, List.size_toArray, List.length_cons, List.length_nil, Nat.reduceAdd, Nat.reduceSub, Array.replicate_succ, Array.replicate_zero, List.push_toArray, List.append_toArray, List.nil_append, List.cons_append]
  have hb0 := (hR 0 W h0).1
  have hw0 : IntKind.i64.wrap ((t.length : Int) - 1) = (t.length : Int) - 1 := IntWalk.i64_in _ ⟨by omega, by omega⟩
  gi_wp2
  gi_loopw [3] (fun iv wr => ∃ k : Nat, k ≤ t.length ∧ iv = .int .i64 ((t.length : Int) - 1 - k) ∧ J k wr) (fun iv _ => (intOf iv + 1).toNat)
  case atStart => exact ⟨0, Nat.zero_le _, by simp, h0⟩
  case round =>
    obtain ⟨k, hk, rfl, hJ⟩ := hrel
    obtain ⟨hb1, hb2⟩ := hR k wr hJ
    by_cases hlt : k < t.length
    · obtain ⟨j, hj⟩ : ∃ j : Nat, j = t.length - 1 - k := ⟨_, rfl⟩
      have hjl : j < t.length := by omega
      have hji : (t.length : Int) - 1 - (k : Int) = (j : Int) := by omega
      obtain ⟨c, hc⟩ : ∃ c, t[j]? = some c := ⟨_, List.getElem?_eq_getElem hjl⟩
      have hcell := hb2 j c hc
      obtain ⟨fn, tmps, assign, body, hy, hRd⟩ := hY k wr hlt hJ
      have hbk : backA t k = #[.int .i64 (j : Int), .int .i64 c] := by
        unfold backA
        rw [List.getElem?_reverse hlt, ← hj, hc]
        rfl
      rw [hbk] at hy
      rw [hji]
      clear hb2 hbk hc hj
      gi_wp2
      refine hRd.mono ?_
      rintro e W3 ⟨rfl, hJ3⟩
      have hwj : IntKind.i64.wrap ((j : Int) - 1) = (j : Int) - 1 := IntWalk.i64_in _ ⟨by omega, by omega⟩
      gi_wp2
      go_roundw
      case rel => exact ⟨k + 1, by omega, congrArg (Value.int .i64) (by omega), hJ3⟩
      case measure => simp [intOf]
    · have hke : k = t.length := by omega
      subst hke
      gi_wp2
      go_end0
      exact ⟨⟨_, rfl⟩, hJ⟩

theorem back_any (ao : Option Addr) (len cap : Nat) (w : World) (F : Fence) (n : Nat) (hF : F.fn 30) (hro : F.round = none) :
    CallsIn F n Tryd.prog 30 #[.slice ao len cap] w fun e w' => e = .returned (.func (.func 46) #[] #[.pointer (some ⟨w.heap.size, 0, none⟩)]) ∧ w' = w.alloc (.cells #[.slice ao len cap] 24) := by
  refine callsIn_of_wp Tryd.func30 rfl hF ?_ hro
  simp only [Tryd.ntmps30, List.size_toArray, List.length_cons, List.length_nil, Nat.reduceAdd, Nat.reduceSub, Array.replicate_succ, Array.replicate_zero, List.push_toArray, List.append_toArray, List.nil_append, List.cons_append]
  gi_wp2
  go_ret
  exact ⟨rfl, rfl⟩

end Go.Proofs.YtcoaabgaolblfaaDoor

/- What Apply answers. -/
namespace Go.Proofs.YtcoaabgaolblfaaDoor
open Go.RowKit Go.Maps

/-- The map's values are the terms of binds. -/
def Terms (w : World) : List (Int × Value) → List Bd → Prop
  | [], [] => True
  | (k, v) :: L, (x, t) :: s => k = x ∧ Is w v t ∧ Terms w L s
  | _, _ => False

theorem Terms.kp {w w' : World} (hk : Kp w w') : ∀ {L : List (Int × Value)} {s : List Bd}, Terms w L s → Terms w' L s
  | [], [], _ => trivial
  | (_, _) :: _, (_, _) :: _, ⟨h1, h2, h3⟩ => ⟨h1, h2.kp hk, Terms.kp hk h3⟩
  | [], _ :: _, h => h.elim
  | _ :: _, [], h => h.elim

theorem Terms.len {w : World} : ∀ {L : List (Int × Value)} {s : List Bd}, Terms w L s → L.length = s.length
  | [], [], _ => rfl
  | (_, _) :: _, (_, _) :: _, ⟨_, _, h3⟩ => congrArg (· + 1) (Terms.len h3)
  | [], _ :: _, h => h.elim
  | _ :: _, [], h => h.elim

theorem Terms.look {w : World} (n : Int) : ∀ {L : List (Int × Value)} {s : List Bd}, Terms w L s → (∀ t, s.lookup n = some t → ∃ v, L.lookup n = some v ∧ Is w v t) ∧ (s.lookup n = none → L.lookup n = none)
  | [], [], _ => ⟨fun t h => (by cases h), fun _ => rfl⟩
  | (k, v) :: L, (x, t) :: s, ⟨h1, h2, h3⟩ => by
    subst h1
    rw [List.lookup_cons, List.lookup_cons]
    cases hk : n == k with
    | true => exact ⟨fun u hu => ⟨v, rfl, by cases hu; exact h2⟩, fun h => by cases h⟩
    | false => exact Terms.look n h3
  | [], _ :: _, h => h.elim
  | _ :: _, [], h => h.elim

end Go.Proofs.YtcoaabgaolblfaaDoor
