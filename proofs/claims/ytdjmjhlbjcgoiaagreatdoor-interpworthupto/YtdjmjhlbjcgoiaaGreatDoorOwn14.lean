/- Texts of the proof, one behind the other. -/
import Derived.Test.YtdjmjhlbjcgoiaaGreatDoorOwn13
import Derived.Test.YtdjmjhlbjcgoiaaGreatDoorOwn12
import Derived.Test.YtdjmjhlbjcgoiaaGreatDoorOwn5
import Derived.Test.YtdjmjhlbjcgoiaaGreatDoorOwn4
import Derived.Sort.QuietTacIn
import Derived.Sort.CutIn
import Derived.Ground.NamesProg
import Derived.Shelf.Lay
import Derived.Shelf.Sort.Plain
import Derived.Shelf.Slices.In.SortNone
import Derived.Sort.OwnSortedInts
import Derived.Deep.LoopGhost
import Derived.Test.YtdjmjhlbjcgoiaaGreatDoorOwn3
import Derived.Shelf.Abstract
/- Package interp's variable and newMeaning. -/
namespace Go.Proofs.YtdjmjhlbjcgoiaaGreatDoor
open Go.RowKit Go.Maps Go.BigFrame

/-- So many zeros. -/
def zerosA (n : Nat) : Array Value := ((List.replicate n (0 : Int)).map I64).toArray

theorem run_make_intsI (w : World) (n : Nat) (hn : n * 8 ≤ 140737488355328) : (Instr.makeSlice 30 (.int .i64 (n : Int)) (.int .i64 (n : Int))).run Tryz.prog w = .ok (.slice (some ⟨w.heap.size, 0, none⟩) n n) (w.alloc (.cells (zerosA n) 3)) := by
  obtain ⟨i0, hi, hz0, hz1, hz2⟩ := info_parts3 info_int
  have h := run_make (P := Tryz.prog) w 30 3 i0 (.int .i64 0) under_ints hi hz0 .i64 .i64 (n : Int) (n : Int) (by omega) (Int.le_refl _) (by rw [hz2]; omega) (by omega)
  rw [hz1, Int.toNat_natCast] at h
  have e : madeCells (Value.int .i64 0).cells (n * 1) = zerosA n := by
    unfold zerosA
    apply Array.ext'
    rw [made_zero64]
  rw [e] at h
  exact h

theorem owI_block {w : World} {base g : Nat} {xs : List Int} (hb : base ≤ g) (hz : ZI xs) (hm : xs.length ≤ maxLen) (h : w.heap[g]? = some (.cells (xs.map I64).toArray 3 (0, 0))) : OwI w base (.slice (some ⟨g, 0, none⟩) xs.length xs.length) xs :=
  ⟨hz, by simp, .inr ⟨g, xs.length, _, rfl, hb, h, Nat.le_refl _, hm, by simp, by simp [List.take_of_length_le]⟩⟩

theorem om_one {w : World} {base g n : Nat} {es : List Int} (hb : base ≤ w.heap.size) (hE : OwI w base (.slice (some ⟨g, 0, none⟩) n n) es) :
    OM ((w.alloc (.cells #[.int .u32 1] 38)).alloc (.cells #[.slice (some ⟨w.heap.size, 0, none⟩) 1 1, .slice (some ⟨g, 0, none⟩) n n] 37)) base (.slice (some ⟨w.heap.size + 1, 0, none⟩) 1 1) [([1], es)] := by
  have b1 := below_alloc (w := w) (.cells #[.int .u32 1] 38)
  have b2 := below_alloc (w := w.alloc (.cells #[.int .u32 1] 38)) (.cells #[.slice (some ⟨w.heap.size, 0, none⟩) 1 1, .slice (some ⟨g, 0, none⟩) n n] 37)
  have hO : Ow (w.alloc (.cells #[.int .u32 1] 38)) base (.slice (some ⟨w.heap.size, 0, none⟩) 1 1) [1] :=
    ⟨fun x hx => by simp at hx; omega, rfl, .inr ⟨w.heap.size, 1, _, rfl, hb, heap_alloc_new _ _, Nat.le_refl _, by unfold maxLen; omega, rfl, rfl⟩⟩
  refine ⟨[(.slice (some ⟨w.heap.size, 0, none⟩) 1 1, .slice (some ⟨g, 0, none⟩) n n)], rfl, fun i c m h1 h2 => ?_, rfl, .inr ⟨w.heap.size + 1, 1, #[.slice (some ⟨w.heap.size, 0, none⟩) 1 1, .slice (some ⟨g, 0, none⟩) n n], rfl, by omega, ?_, Nat.le_refl _, by unfold maxLen; omega, rfl, rfl⟩⟩
  · have hi : i = 0 := by
      have := (List.getElem?_eq_some_iff.1 h1).1
      simpa using this
    subst hi
    simp at h1 h2
    subst h1
    subst h2
    exact ⟨hO.since b2, hE.later (below_step b1 b2)⟩
  · have h := heap_alloc_new (w.alloc (.cells #[.int .u32 1] 38)) (.cells #[.slice (some ⟨w.heap.size, 0, none⟩) 1 1, .slice (some ⟨g, 0, none⟩) n n] 37)
    rw [World.size_alloc] at h
    exact h

theorem zeros_set (k : Nat) : (zerosA (k + 1)).setIfInBounds k (.int .i64 1) = ((List.replicate k (0 : Int) ++ [1]).map I64).toArray := by
  unfold zerosA
  rw [List.replicate_succ', List.map_append, List.map_append]
  apply Array.ext'
  rw [Array.toList_setIfInBounds]
  simp [I64]

theorem zi_vpol (k : Nat) : ZI (List.replicate k (0 : Int) ++ [1]) := fun i x hx => by
  rcases List.mem_append.1 (List.mem_of_getElem? hx) with h | h
  · rw [List.eq_of_mem_replicate h]; omega
  · rw [List.mem_singleton.1 h]; omega

set_option maxRecDepth 100000 in
set_option maxHeartbeats 1600000 in
theorem variable_any (k : Nat) (w : World) (hk : k < 512) :
    Calls Tryz.prog 99 #[.int .i64 (k : Int)] w fun e w' => ∃ v, e = .returned v ∧ OM w' w.heap.size v (vpol k) ∧ Below w.heap.size w w' := by
  have hmk := run_make_intsI w (k + 1) (by omega)
  rw [Int.natCast_succ] at hmk
  have HG : Hid ((w.alloc (.cells (zerosA (k + 1)) 3)).heap[w.heap.size]? = some (.cells (zerosA (k + 1)) 3 (0, 0))) := hid (heap_alloc_new _ _)
  have B1 := hid (below_alloc (w := w) (.cells (zerosA (k + 1)) 3))
  go_enter Tryz.func99, Tryz.ntmps99
  go_upto_region 2 with fail
  clear hmk
  generalize w.alloc (.cells (zerosA (k + 1)) 3) = W1 at HG B1 ⊢
  have hfr : W1.frozen? ⟨w.heap.size, k, none⟩ = false := frozen_of_row W1 _ _ _ _ HG.out
  have hcell : W1.cell? ⟨w.heap.size, k, none⟩ = some (.int .i64 0) := by
    rw [cell_of_row _ _ _ _ _ _ HG.out]
    unfold zerosA
    simp [I64]
  obtain ⟨W2, hW2⟩ : ∃ X, X = W1.setCell ⟨w.heap.size, k, none⟩ (.int .i64 1) := ⟨_, rfl⟩
  have HG2 : Hid (W2.heap[w.heap.size]? = some (.cells ((List.replicate k (0 : Int) ++ [1]).map I64).toArray 3 (0, 0))) := by
    show _ = _
    rw [hW2, heap_setCell_same _ _ _ _ _ _ HG.out, zeros_set]
  have B2 : Hid (Below w.heap.size w W2) := by rw [hW2]; exact B1.out.setCell (p := ⟨w.heap.size, k, none⟩) (Nat.le_refl _) (.int .i64 1)
  go_upto_region 3 with fail
  rw [← hW2]
  clear hW2 hfr hcell HG B1
  go_wp2
  go_ret
  have hE := owI_block (w := W2) (base := w.heap.size) (xs := List.replicate k (0 : Int) ++ [1]) (Nat.le_refl _) (zi_vpol k) (by unfold maxLen; simp; omega) HG2.out
  have hl : (List.replicate k (0 : Int) ++ [1]).length = k + 1 := by simp
  rw [hl] at hE
  exact ⟨_, rfl, om_one B2.out.size hE, below_step (below_step B2.out (below_alloc _)) (below_alloc _)⟩

/-- The map of the first k variables' polynomials. -/
def VM (w : World) (base b : Nat) (vs : List Int) (k : Nat) : Prop :=
  ∃ L, MapV w b L ∧ L.length = k ∧ (∀ c u, L.lookup c = some u → ∃ i, i < k ∧ vs[i]? = some (-1 - c) ∧ OM w base u (vpol i)) ∧ ∀ i v, i < k → vs[i]? = some v → (L.lookup (-1 - v)).isSome = true

theorem VM.later {w w' : World} {base b k : Nat} {vs : List Int} (h : VM w base b vs k) (hb : Below w.heap.size w w') : VM w' base b vs k := by
  obtain ⟨L, h1, h2, h3, h4⟩ := h
  refine ⟨L, h1.later hb, h2, fun c u hc => ?_, h4⟩
  obtain ⟨i, i1, i2, i3⟩ := h3 c u hc
  exact ⟨i, i1, i2, i3.later hb⟩

/-- What newMeaning lays: each symbol's polynomial, and each variable's. -/
structure MgM (w : World) (base gS b : Nat) (sig : List Sy) (l : List Ip) (vs : List Int) : Prop where
  sym : ∃ vals, VB w gS vals ∧ vals.length = sig.length ∧ ∀ c, c < sig.length → ∃ u, vals[c]? = some u ∧ Ms w u (spol l (c : Int))
  var : VM w base b vs vs.length

theorem MgM.later {w w' : World} {base gS b : Nat} {sig : List Sy} {l : List Ip} {vs : List Int} (h : MgM w base gS b sig l vs) (hb : Below w.heap.size w w') : MgM w' base gS b sig l vs := by
  obtain ⟨vals, h1, h2, h3⟩ := h.sym
  refine ⟨⟨vals, h1.later hb, h2, fun c hc => ?_⟩, h.var.later hb⟩
  obtain ⟨u, u1, u2⟩ := h3 c hc
  exact ⟨u, u1, u2.kp (Kp.of_below hb)⟩

theorem under_vmap : Tryz.prog.underlying 83 = some (.map 3 31) := by kernel_rfl

theorem zero_monos (w : World) : (zeroValue 31).run Tryz.prog w = .ok (.slice none 0 0) w := by kernel_rfl

theorem VM.store {w : World} {base b k : Nat} {vs : List Int} {v : Int} {u : Value} (h : VM w base b vs k) (hn : vs.Nodup) (hv : vs[k]? = some v) (h1 : 0 ≤ v) (h2 : v ≤ 1048576) (hk : k < 512) (hu : OM w base u (vpol k)) :
    ∃ w', (Instr.mapUpdate 83 (.map (some b)) (.int .i64 (-1 - v)) u).run Tryz.prog w = .ok () w' ∧ VM w' base b vs (k + 1) ∧ w.grownBy w' (some b) := by
  obtain ⟨L, m1, m2, m3, m4⟩ := h
  have hno : L.lookup (-1 - v) = none := by
    cases hc : L.lookup (-1 - v) with
    | none => rfl
    | some u' =>
      obtain ⟨i, i1, i2, _⟩ := m3 _ _ hc
      rw [show -1 - (-1 - v) = v by omega] at i2
      have e1 := idx_of hn i2
      have e2 := idx_of hn hv
      omega
  obtain ⟨w', r1, r2, r3⟩ := m1.store under_vmap (k := -1 - v) (by omega) (by omega) hno (by rw [m2]; unfold maxLen; omega) u
  obtain ⟨es, clock, hb⟩ := m1.isMap
  refine ⟨w', r1, ⟨_, r2, by rw [List.length_cons, m2], fun c u' hc => ?_, fun i x hi hx => ?_⟩, r3⟩
  · rw [List.lookup_cons] at hc
    by_cases e : c = -1 - v
    · subst e
      simp at hc
      subst hc
      exact ⟨k, by omega, by rw [show -1 - (-1 - v) = v by omega]; exact hv, hu.mapped hb r3⟩
    · rw [show (c == -1 - v) = false by simpa using e] at hc
      obtain ⟨i, i1, i2, i3⟩ := m3 c u' hc
      exact ⟨i, by omega, i2, i3.mapped hb r3⟩
  · rw [List.lookup_cons]
    by_cases e : -1 - x = -1 - v
    · rw [show (-1 - x == -1 - v) = true by simpa using e]
      rfl
    · rw [show (-1 - x == -1 - v) = false by simpa using e]
      refine m4 i x ?_ hx
      rcases Nat.lt_succ_iff_lt_or_eq.1 hi with h | h
      · exact h
      · subst h
        rw [hv] at hx
        cases hx
        exact absurd rfl e

/-- The cell of a meaning. -/
def MC (w : World) (gm : Nat) (sv : Value) (gS n b : Nat) : Prop := w.heap[gm]? = some (.cells #[sv, .slice (some ⟨gS, 0, none⟩) n n, .map (some b)] 85 (0, 0))

theorem MC.lt {w : World} {gm : Nat} {sv : Value} {gS n b : Nat} (h : MC w gm sv gS n b) : gm < w.heap.size := (Array.getElem?_eq_some_iff.1 h).1

theorem MC.cells {w : World} {gm : Nat} {sv : Value} {gS n b : Nat} (h : MC w gm sv gS n b) : w.cell? ⟨gm, 0, none⟩ = some sv ∧ w.cell? ⟨gm, 1, none⟩ = some (.slice (some ⟨gS, 0, none⟩) n n) ∧ w.cell? ⟨gm, 2, none⟩ = some (.map (some b)) :=
  ⟨by rw [cell_of_row _ _ _ _ _ _ h]; rfl, by rw [cell_of_row _ _ _ _ _ _ h]; rfl, by rw [cell_of_row _ _ _ _ _ _ h]; rfl⟩

theorem MC.later {w w' : World} {gm : Nat} {sv : Value} {gS n b : Nat} (h : MC w gm sv gS n b) (hb : Below w.heap.size w w') : MC w' gm sv gS n b := (hb.block gm h.lt).trans h

theorem MC.held {w w' : World} {gm : Nat} {sv : Value} {gS n b : Nat} {row : Option Nat} (h : MC w gm sv gS n b) (hg : w.grownBy w' row) (hr : some gm ≠ row) : MC w' gm sv gS n b := (hg.block gm h.lt hr).trans h

theorem MC.setVB {w : World} {gm : Nat} {sv u : Value} {gS n b g k : Nat} {vals : List Value} (h : MC w gm sv gS n b) (hg : VB w g vals) : MC (w.setCell ⟨g, k, none⟩ u) gm sv gS n b :=
  h.held (grown_setCell w g k u) (fun e => by
    cases e
    unfold MC at h
    unfold VB at hg
    rw [h] at hg
    simp only [Option.some.injEq, Obj.cells.injEq] at hg
    exact absurd hg.2.1 (by decide))

theorem own_notCells {w : World} {base n g : Nat} {e ty : TypeId} {s : Nat} {v : Value} {xs : List Value} {cs : Array Value} {fr : Nat × Nat} (h : w.ownsRow base e s v n xs) (hg : w.heap[g]? = some (.cells cs ty fr)) (hne : e ≠ ty) : v.ownBlock = none ∨ v.ownBlock ≠ some g := by
  rcases h.2 with ⟨rfl, _⟩ | ⟨g', cap, cur, rfl, _, hg', _⟩
  · exact .inl rfl
  · refine .inr ?_
    simp only [Value.ownBlock]
    intro e
    cases e
    rw [hg] at hg'
    simp only [Option.some.injEq, Obj.cells.injEq] at hg'
    exact hne hg'.2.1.symm

theorem OM.heldAt {w w' : World} {base g : Nat} {v : Value} {p : List Mn} {cs : Array Value} {ty : TypeId} {fr : Nat × Nat} (h : OM w base v p) (hg : w.grownBy w' (some g)) (hb : w.heap[g]? = some (.cells cs ty fr)) (h1 : 37 ≠ ty) (h2 : 38 ≠ ty) (h3 : 3 ≠ ty) : OM w' base v p := by
  obtain ⟨cs, hl, hc, ho⟩ := h
  refine ⟨cs, hl, fun i c m i1 i2 => ?_, World.ownsRow.kept ho hg (own_notCells ho hb h1)⟩
  obtain ⟨o1, o2⟩ := hc i c m i1 i2
  exact ⟨o1.held hg (own_notCells o1.2 hb h2), o2.kept hg (own_notCells o2.2 hb h3)⟩

theorem VM.heldAt {w w' : World} {base b k g : Nat} {vs : List Int} {cs : Array Value} {fr : Nat × Nat} (h : VM w base b vs k) (hg : w.grownBy w' (some g)) (hb : w.heap[g]? = some (.cells cs 85 fr)) : VM w' base b vs k := by
  obtain ⟨L, h1, h2, h3, h4⟩ := h
  refine ⟨L, h1.kept hg (fun e => ?_), h2, fun c u hc => ?_, h4⟩
  · obtain ⟨es, clock, hm⟩ := h1.isMap
    cases e
    rw [hb] at hm
    cases hm
  · obtain ⟨i, i1, i2, i3⟩ := h3 c u hc
    exact ⟨i, i1, i2, i3.heldAt hg hb (by decide) (by decide) (by decide)⟩

theorem grown_set3 (w : World) (g : Nat) (a b c : Value) : w.grownBy (((w.setCell ⟨g, 0, none⟩ a).setCell ⟨g, 1, none⟩ b).setCell ⟨g, 2, none⟩ c) (some g) :=
  ⟨rfl, rfl, rfl, by simp, fun j _ hj => by
    have hne : j ≠ g := fun e => hj (by rw [e])
    rw [Below.heap_setCell _ ⟨g, 2, none⟩ c j hne, Below.heap_setCell _ ⟨g, 1, none⟩ b j hne, Below.heap_setCell _ ⟨g, 0, none⟩ a j hne]⟩

set_option maxRecDepth 100000 in
set_option maxHeartbeats 1600000 in
theorem newMeaning_big (sv lv vv : Value) (vs : List Int) (w : World) (hv : Is w vv vs) (hbig : 512 < vs.length) :
    Calls Tryz.prog 46 #[sv, lv, vv] w fun e w' => e = .returned (.tuple #[.agg #[.slice none 0 0, .slice none 0 0, .map none], .int .i64 2]) ∧ Below w.heap.size w w' := by
  obtain ⟨vo, vc, rfl, hvo, hvc, _⟩ := Row.flat hv
  have hd : decide ((512 : Int) < (vs.length : Int)) = true := decide_eq_true (by omega)
  have hd2 : decide (512 < vs.length) = true := decide_eq_true hbig
  clear hv
  go_enter Tryz.func46, Tryz.ntmps46
  go_wp2
  refine bodyPost_ret (results_cell (t := 6) (u := 7) (ty := 85) (ad := ⟨w.heap.size, 0, none⟩) (v := .agg #[.slice none 0 0, .slice none 0 0, .map none]) rfl rfl (by go_simp)) rfl ?_
  exact ⟨rfl, below_alloc _⟩

set_option maxRecDepth 100000 in
set_option maxHeartbeats 6400000 in
theorem newMeaning_any (sv lv vv : Value) (sig : List Sy) (l : List Ip) (vs : List Int) (w : World) (hs : Sg w sv sig) (hl : Ins w lv l) (hv : Is w vv vs) (hin : inE sig l = 0) (hnd : vs.Nodup) (hr : ∀ v ∈ vs, 0 ≤ v ∧ v ≤ 1048576) (hsm : vs.length ≤ 512) (hsl : sig.length ≤ 1000) :
    Calls Tryz.prog 46 #[sv, lv, vv] w fun e w' => ∃ gS b, e = .returned (.tuple #[.agg #[sv, .slice (some ⟨gS, 0, none⟩) sig.length sig.length, .map (some b)], .int .i64 0]) ∧ MgM w' w.heap.size gS b sig l vs ∧ Below w.heap.size w w' := by
  obtain ⟨so, sc, rfl, hso, hsc, _⟩ := Row.flat hs
  obtain ⟨lo, lc, rfl, hlo, hlc, _⟩ := Row.flat hl
  obtain ⟨vo, vc, rfl, hvo, hvc, _⟩ := Row.flat hv
  unfold maxLen at hsc hlc hvc
  have HL := hid hl
  have HV := hid hv
  have HIn := hid (inE_ok hin).2
  have HNd := hid hnd
  have HR := hid hr
  have HNp := hid (in_nodup hin)
  have hd : decide ((512 : Int) < (vs.length : Int)) = false := decide_eq_false (by omega)
  have hd2 : decide (512 < vs.length) = false := decide_eq_false (by omega)
  clear hs hl hv hin hnd hr
  obtain ⟨W0, hW0⟩ : ∃ X, X = w.alloc (.cells #[.slice none 0 0, .slice none 0 0, .map none] 85) := ⟨_, rfl⟩
  have B0 : Hid (Below w.heap.size w W0) := by rw [hW0]; exact below_alloc _
  have R0 : Hid (W0.heap[w.heap.size]? = some (.cells #[.slice none 0 0, .slice none 0 0, .map none] 85 (0, 0))) := by rw [hW0]; exact hid (heap_alloc_new _ _)
  go_enter Tryz.func46, Tryz.ntmps46
  go_upto_region 3 with fail
  rw [← hW0]
  clear hW0
  have hmk := run_make_polys W0 sig.length (by omega)
  obtain ⟨W1, hW1⟩ : ∃ X, X = W0.alloc (.cells (List.replicate sig.length (Value.slice none 0 0)).toArray 31) := ⟨_, rfl⟩
  have B1 : Hid (Below W0.heap.size W0 W1) := by rw [hW1]; exact below_alloc _
  have V1 : Hid (VB W1 W0.heap.size (List.replicate sig.length (Value.slice none 0 0))) := by rw [hW1]; exact hid (heap_alloc_new _ _)
  rw [← hW1] at hmk
  clear hW1
  obtain ⟨W2, hW2⟩ : ∃ X, X = (W1.alloc (.map #[] 0)).alloc (.cells #[.slice so sig.length sc, .slice (some ⟨W0.heap.size, 0, none⟩) sig.length sig.length, .map (some W1.heap.size)] 85) := ⟨_, rfl⟩
  have B2 : Hid (Below W1.heap.size W1 W2) := by rw [hW2]; exact below_step (below_alloc _) (below_alloc _)
  have M2 : Hid (MapV W2 W1.heap.size []) := by rw [hW2]; exact hid ((MapV.made W1).later (below_alloc _))
  have C2 : Hid (MC W2 (W1.heap.size + 1) (.slice so sig.length sc) W0.heap.size sig.length W1.heap.size) := by
    have h := heap_alloc_new (W1.alloc (.map #[] 0)) (.cells #[.slice so sig.length sc, .slice (some ⟨W0.heap.size, 0, none⟩) sig.length sig.length, .map (some W1.heap.size)] 85)
    rw [World.size_alloc] at h
    rw [hW2]
    exact h
  have hmm := @run_makeMap Tryz.prog
  go_upto_region 4 with fail
  rw [← hW2]
  clear hW2 hmk hmm
  have BW : Hid (Below w.heap.size w W2) := hid (below_step (below_step B0.out B1.out) B2.out)
  have V2 := hid (V1.out.later B2.out)
  have R2 : Hid (W2.heap[w.heap.size]? = some (.cells #[.slice none 0 0, .slice none 0 0, .map none] 85 (0, 0))) := by
    have h0 : w.heap.size < W0.heap.size := (Array.getElem?_eq_some_iff.1 R0.out).1
    exact (B2.out.block _ (Nat.lt_of_lt_of_le h0 B1.out.size)).trans ((B1.out.block _ h0).trans R0.out)
  have hgS : w.heap.size ≤ W0.heap.size := B0.out.size
  have hgb : w.heap.size ≤ W1.heap.size := Nat.le_trans hgS B1.out.size
  have hne : w.heap.size ≠ W0.heap.size := Nat.ne_of_lt (Array.getElem?_eq_some_iff.1 R0.out).1
  have hne2 : w.heap.size ≠ W1.heap.size := Nat.ne_of_lt (Nat.lt_of_lt_of_le (Array.getElem?_eq_some_iff.1 R0.out).1 B1.out.size)
  generalize W0.heap.size = gS at V2 C2 hgS hne ⊢
  generalize W1.heap.size = b at M2 C2 hgb hne2 ⊢
  clear V1 R0 B0 B1 B2
  generalize hgm : b + 1 = gm at C2 ⊢
  have HGm := hid hgm
  clear hgm
  go_wp2
  go_loopw [25] (fun x wr => ∃ (k : Nat) (vals : List Value), k ≤ l.length ∧ x = .int .i64 k ∧ VB wr gS vals ∧ vals.length = sig.length ∧ (∀ c, c < sig.length → ∃ u, vals[c]? = some u ∧ Ms w u (spol (l.take k).reverse (c : Int))) ∧ MapV wr b [] ∧ MC wr gm (.slice so sig.length sc) gS sig.length b ∧ wr.heap[w.heap.size]? = some (.cells #[.slice none 0 0, .slice none 0 0, .map none] 85 (0, 0)) ∧ Below w.heap.size w wr) (fun x _ => l.length - (intOf x).toNat)
  case atStart => exact ⟨0, _, Nat.zero_le _, rfl, V2.out, by simp, fun c hc => ⟨_, by rw [List.getElem?_replicate, if_pos hc], Row.nil (Nat.zero_le _)⟩, M2.out, C2.out, R2.out, BW.out⟩
  case round =>
    clear V2 M2 C2 R2 BW
    obtain ⟨k, vals, hk, rfl, hvb, hvl, hvs, hmv, hmc, hrc, hbl⟩ := hrel
    have HVB := hid hvb
    have HVl := hid hvl
    have HVs := hid hvs
    have HMv := hid hmv
    have HMC := hid hmc
    have HRc := hid hrc
    have BL := hid hbl
    clear hvb hvl hvs hmv hmc hrc hbl
    by_cases hlt : k < l.length
    · obtain ⟨g, off, c, p, a1, c1, rfl, hm, hc0w, hc1w, hp, hcl, hcu, hp1, hp2⟩ := HL.out.at hlt
      have hmem : (c, p) ∈ l := List.mem_of_getElem? hm
      obtain ⟨ci, hci⟩ := Int.eq_ofNat_of_zero_le (HIn.out _ hmem).1
      have hlt2 := (HIn.out _ hmem).2.1
      simp only at hci hlt2
      subst hci
      have hcs : ci < sig.length := by omega
      have HM := hid hm
      have HP := hid hp
      have hc0 := (Kp.of_below BL.out).cell _ _ hc0w
      have hc1 := (Kp.of_below BL.out).cell _ _ hc1w
      have hgw : g < wr.heap.size := World.block_lt_of_cell? _ _ hc0
      obtain ⟨W, hW⟩ : ∃ X, X = wr.alloc (.cells #[.int .i64 (ci : Int), .slice a1 p.length c1] 51) := ⟨_, rfl⟩
      have BX : Hid (Below wr.heap.size wr W) := by rw [hW]; exact below_alloc _
      have y0 : W.cell? ⟨wr.heap.size, 0, none⟩ = some (.int .i64 (ci : Int)) := by rw [hW, cell_of_row _ _ _ _ _ _ (heap_alloc_new _ _)]; rfl
      have y1 : W.cell? ⟨wr.heap.size, 1, none⟩ = some (.slice a1 p.length c1) := by rw [hW, cell_of_row _ _ _ _ _ _ (heap_alloc_new _ _)]; rfl
      have BLW := hid (below_step BL.out BX.out)
      have HVW := hid (HVB.out.later BX.out)
      have HMW := hid (HMC.out.later BX.out)
      have HMvW := hid (HMv.out.later BX.out)
      have HRW : Hid (W.heap[w.heap.size]? = some (.cells #[.slice none 0 0, .slice none 0 0, .map none] 85 (0, 0))) := hid ((BX.out.block _ (Array.getElem?_eq_some_iff.1 HRc.out).1).trans HRc.out)
      clear hm hp hc0w hc1w hmem
      go_upto_region 7 with fail
      rw [← hW]
      clear hW hc0 hc1
      generalize wr.heap.size = gb at y0 y1 ⊢
      have y2 := HMW.out.cells.2.1
      obtain ⟨u0, hu0, _⟩ := HVs.out ci hcs
      have hcg := HVW.out.cell hu0
      have hfr := HVW.out.frozen ci
      obtain ⟨W3, hW3⟩ : ∃ X, X = W.setCell ⟨gS, ci, none⟩ (.slice a1 p.length c1) := ⟨_, rfl⟩
      have HV3 : Hid (VB W3 gS (vals.set ci (.slice a1 p.length c1))) := by rw [hW3]; exact hid (HVW.out.set _ _)
      have HMC3 : Hid (MC W3 gm (.slice so sig.length sc) gS sig.length b) := by rw [hW3]; exact hid (HMW.out.setVB HVW.out)
      have HMv3 : Hid (MapV W3 b []) := by
        rw [hW3]
        refine hid (HMvW.out.kept (grown_setCell W gS ci _) (fun e => ?_))
        obtain ⟨es, clock, hb⟩ := HMvW.out.isMap
        cases e
        have h9 := HVW.out
        unfold VB at h9
        rw [h9] at hb
        cases hb
      have HR3 : Hid (W3.heap[w.heap.size]? = some (.cells #[.slice none 0 0, .slice none 0 0, .map none] 85 (0, 0))) := by
        rw [hW3]
        exact hid ((Below.heap_setCell W ⟨gS, ci, none⟩ _ _ hne).trans HRW.out)
      have B3 : Hid (Below w.heap.size w W3) := by rw [hW3]; exact BLW.out.setCell (p := ⟨gS, ci, none⟩) hgS _
      have HVs3 : Hid (∀ c, c < sig.length → ∃ u, (vals.set ci (.slice a1 p.length c1))[c]? = some u ∧ Ms w u (spol (l.take (k + 1)).reverse (c : Int))) := fun c hc => by
        rw [take_get HM.out, List.reverse_append]
        show ∃ u, _ ∧ Ms w u (spol (((ci : Int), p) :: (l.take k).reverse) (c : Int))
        rw [spol]
        by_cases e : (ci : Int) = (c : Int)
        · have e2 : ci = c := by omega
          subst e2
          rw [if_pos rfl]
          refine ⟨_, ?_, HP.out⟩
          rw [List.getElem?_set_self (by rw [HVl.out]; exact hcs)]
        · rw [if_neg e, List.getElem?_set_ne (by omega)]
          exact HVs.out c hc
      have HVl3 : Hid ((vals.set ci (.slice a1 p.length c1)).length = sig.length) := by show _ = _; rw [List.length_set]; exact HVl.out
      clear HVs HVB HMC HMv HRc BL BX BLW HMW HMvW HRW HVl
      go_upto_region 8 with fail
      rw [← hW3]
      clear hW3 hcg hfr y0 y1 y2 hu0 HVW
      go_wp2
      go_roundw
      case rel => exact ⟨k + 1, _, hlt, by go_num, HV3.out, HVl3.out, HVs3.out, HMv3.out, HMC3.out, HR3.out, B3.out⟩
      case measure => simp [intOf]; omega
    · have hke : k = l.length := by omega
      have HVs2 : Hid (∀ c, c < sig.length → ∃ u, vals[c]? = some u ∧ Ms w u (spol l (c : Int))) := fun c hc => by
        obtain ⟨u, u1, u2⟩ := HVs.out c hc
        rw [hke, List.take_length, spol_rev HNp.out] at u2
        exact ⟨u, u1, u2⟩
      have HVM : Hid (VM wr w.heap.size b vs 0) := ⟨[], HMv.out, rfl, fun c u h => (by cases h), fun i v h => absurd h (by omega)⟩
      clear HVs HMv hke
      go_wp2
      obtain ⟨wk, hwk⟩ : ∃ X, X = wr := ⟨_, rfl⟩
      rw [← hwk] at HVB HMC HRc BL HVM ⊢
      clear hwk
      go_loopw [39] (fun x wr => ∃ j : Nat, j ≤ vs.length ∧ x = .int .i64 j ∧ VB wr gS vals ∧ VM wr w.heap.size b vs j ∧ MC wr gm (.slice so sig.length sc) gS sig.length b ∧ wr.heap[w.heap.size]? = some (.cells #[.slice none 0 0, .slice none 0 0, .map none] 85 (0, 0)) ∧ Below w.heap.size w wr) (fun x _ => vs.length - (intOf x).toNat)
      case atStart => exact ⟨0, Nat.zero_le _, rfl, HVB.out, HVM.out, HMC.out, HRc.out, BL.out⟩
      case round =>
        clear HVB HVM HMC HRc BL
        obtain ⟨j, hj, rfl, hvb, hvm, hmc, hrc, hbl⟩ := hrel
        have HVB := hid hvb
        have HVM := hid hvm
        have HMC := hid hmc
        have HRc := hid hrc
        have BL := hid hbl
        clear hvb hvm hmc hrc hbl
        by_cases hjl : j < vs.length
        · obtain ⟨g, off, v, rfl, hv1, hv2, hv3, hv4⟩ := HV.out.at hjl
          have hvr := HR.out v (List.mem_of_getElem? hv1)
          have HVj := hid hv1
          have hcv := (Kp.of_below BL.out).cell _ _ hv2
          have hgw : g < wr.heap.size := World.block_lt_of_cell? _ _ hcv
          have y2 := HMC.out.cells.2.2
          have HWv : Hid (IntKind.i64.wrap (-1 - v) = -1 - v) := hid (IntWalk.i64_in _ ⟨by omega, by omega⟩)
          clear hv1 hv2 hv3 hv4
          go_upto_region 12 with fail
          clear hcv
          have hS : Kp wr wr.drew := Kp.of_below (drawn_belowI wr)
          refine wp_region_held_drew (S := fun w' => Kp wr w') (by kernel_rfl) hS (fun _ => ?_)
          obtain ⟨W0, hW0⟩ : ∃ X, X = wr.drew := ⟨_, rfl⟩
          have bW0 : Below wr.heap.size wr W0 := by rw [hW0]; exact drawn_belowI wr
          rw [← hW0] at hS ⊢
          clear hW0
          refine wpAnyH_take (i := 0) (v := .pointer (some ⟨gm, 2, none⟩)) rfl (by kernel_rfl) (by kernel_rfl) (by kernel_rfl) (fun _ _ _ h => h) (Or.inl ⟨by rfl, fun w' h => by go_simp⟩) hS ?_
          simp only [Act.put, List.setIfInBounds_toArray]
          refine wpAnyH_take (i := 1) (v := .map (some b)) rfl (by kernel_rfl) (by kernel_rfl) (by kernel_rfl) (fun _ _ _ h => h) (Or.inl ⟨by rfl, fun w' h => by have hh := h.cell _ _ y2; go_simp⟩) hS ?_
          simp only [Act.put]
          refine wpAnyH_take (i := 2) (v := .int .i64 v) rfl (by kernel_rfl) (by kernel_rfl) (by kernel_rfl) (fun _ _ _ h => h) (Or.inl ⟨by rfl, fun w' h => by go_simp⟩) hS ?_
          simp only [Act.put]
          refine wpAnyH_take (i := 3) (v := .int .i64 (-1 - v)) rfl (by kernel_rfl) (by kernel_rfl) (by kernel_rfl) (fun _ _ _ h => h) (Or.inl ⟨by rfl, fun w' h => by have hh := HWv.out; go_simp⟩) hS ?_
          simp only [Act.put]
          refine wpAnyH_take (i := 4) (v := .int .i64 (j : Int)) rfl (by kernel_rfl) (by kernel_rfl) (by kernel_rfl) (fun _ _ _ h => h) (Or.inl ⟨by rfl, fun w' h => by go_simp⟩) hS ?_
          simp only [Act.put]
          refine wpAnyH_ready (rs := [5]) (by kernel_rfl) (by simp) (AllReadyH.cons rfl (fun K hK => ?_) (AllReadyH.nil))
          go_simp
          refine (variable_any j W0 (by omega)).mono ?_
          rintro e w4 ⟨uv, rfl, ho4, hb4⟩
          have b4 := below_step bW0 hb4
          obtain ⟨ao, cap, rfl⟩ := ho4.slice
          have hb0 : w.heap.size ≤ W0.heap.size := Nat.le_trans BL.out.size bW0.size
          obtain ⟨w5, hru, hvm5, hg5⟩ := (HVM.out.later b4).store HNd.out HVj.out hvr.1 hvr.2 (by omega) (ho4.mono hb0)
          obtain ⟨L9, m9, _⟩ := HVM.out.later b4
          obtain ⟨es9, ck9, hes9⟩ := m9.isMap
          have HVM5 := hid hvm5
          have HVB5 := hid ((HVB.out.later b4).held hg5 (fun e => by
            cases e
            have h9 := HVB.out.later b4
            unfold VB at h9
            rw [h9] at hes9
            cases hes9))
          have HMC5 := hid ((HMC.out.later b4).held hg5 (fun e => by
            cases e
            have h9 := HMC.out.later b4
            unfold MC at h9
            rw [h9] at hes9
            cases hes9))
          have HR5 : Hid (w5.heap[w.heap.size]? = some (.cells #[.slice none 0 0, .slice none 0 0, .map none] 85 (0, 0))) := by
            have h1 := (b4.block _ (Array.getElem?_eq_some_iff.1 HRc.out).1).trans HRc.out
            exact hid ((hg5.block _ (Array.getElem?_eq_some_iff.1 h1).1 (by simpa using hne2)).trans h1)
          have B5 := hid ((below_step BL.out b4).grown hg5 (below_step BL.out b4).size (fun i hi => by cases hi; exact hgb))
          have hS4 : Kp wr w4 := Kp.of_below b4
          have hS5 : Kp wr w5 := hS4.trans (Kp.of_map hg5 hes9)
          refine hK.out _ _ hS4 (fun _ => ?_)
          clear hK K hS
          try simp only [Act.put, List.setIfInBounds_toArray, List.set_cons_zero, List.set_cons_succ]
          refine wpAnyH_ready (rs := [6]) (by kernel_rfl) (by simp) (AllReadyH.cons rfl (fun K hK => ?_) AllReadyH.nil)
          go_simp
          refine hK.out _ _ hS5 (fun _ => ?_)
          clear hK K hru
          refine wpAnyH_done (by kernel_rfl) ?_ _
          clear hS4 hS5 HVM HVB HMC HRc BL bW0 hb4 b4 ho4 hvm5 hg5 m9 hes9 y2
          go_wp2
          go_roundw
          case rel => exact ⟨j + 1, hjl, by go_num, HVB5.out, HVM5.out, HMC5.out, HR5.out, B5.out⟩
          case measure => simp [intOf]; omega
        · have hje : j = vs.length := by omega
          have y0 := HMC.out.cells.1
          have y1 := HMC.out.cells.2.1
          have y2 := HMC.out.cells.2.2
          have z0 : wr.cell? ⟨w.heap.size, 0, none⟩ = some (.slice none 0 0) := by rw [cell_of_row _ _ _ _ _ _ HRc.out]; rfl
          have z1 : wr.cell? ⟨w.heap.size, 1, none⟩ = some (.slice none 0 0) := by rw [cell_of_row _ _ _ _ _ _ HRc.out]; rfl
          have z2 : wr.cell? ⟨w.heap.size, 2, none⟩ = some (.map none) := by rw [cell_of_row _ _ _ _ _ _ HRc.out]; rfl
          have f0 : wr.frozen? ⟨w.heap.size, 0, none⟩ = false := frozen_of_row wr _ _ _ _ HRc.out
          have f1 : wr.frozen? ⟨w.heap.size, 1, none⟩ = false := frozen_of_row wr _ _ _ _ HRc.out
          have f2 : wr.frozen? ⟨w.heap.size, 2, none⟩ = false := frozen_of_row wr _ _ _ _ HRc.out
          go_wp2
          refine bodyPost_ret (results_cell (t := 6) (u := 7) (ty := 85) (ad := ⟨w.heap.size, 0, none⟩) (v := .agg #[.slice so sig.length sc, .slice (some ⟨gS, 0, none⟩) sig.length sig.length, .map (some b)]) rfl rfl (by go_simp)) rfl ?_
          have hg := grown_set3 wr w.heap.size (.slice so sig.length sc) (.slice (some ⟨gS, 0, none⟩) sig.length sig.length) (.map (some b))
          have hBf : Below w.heap.size w (((wr.setCell ⟨w.heap.size, 0, none⟩ (.slice so sig.length sc)).setCell ⟨w.heap.size, 1, none⟩ (.slice (some ⟨gS, 0, none⟩) sig.length sig.length)).setCell ⟨w.heap.size, 2, none⟩ (.map (some b))) := BL.out.grown hg BL.out.size (fun i hi => by cases hi; exact Nat.le_refl _)
          subst hje
          exact ⟨gS, b, rfl, ⟨⟨vals, HVB.out.held hg (by simpa using Ne.symm hne), HVl.out, fun c hc => (by
            obtain ⟨u, u1, u2⟩ := HVs2.out c hc
            exact ⟨u, u1, u2.kp (Kp.of_below hBf)⟩)⟩, HVM.out.heldAt hg HRc.out⟩, hBf⟩

end Go.Proofs.YtdjmjhlbjcgoiaaGreatDoor

/- Package interp's (meaning).of. -/
namespace Go.Proofs.YtdjmjhlbjcgoiaaGreatDoor
open Go.RowKit Go.Maps Go.BigFrame

theorem ofS_short {sig : List Sy} {sp vp : Int → List Mn} : ∀ {u : List Int} {st : List (List Mn)}, ofS sig sp vp u = some st → st.length ≤ u.length
  | [], st, h => by cases h; simp
  | c :: u, st, h => by
    cases hu : ofS sig sp vp u with
    | none => rw [ofS_none hu] at h; cases h
    | some s =>
      have ih := ofS_short hu
      by_cases hc : c < 0
      · rw [ofS_var hu hc] at h
        cases h
        simp only [List.length_cons]
        omega
      · by_cases h0 : compE (sp c) (s.take (arN sig c)) = 0
        · rw [ofS_yes hu hc h0] at h
          cases h
          simp only [List.length_cons, List.length_drop]
          omega
        · rw [ofS_no hu hc h0] at h; cases h

/-- A piece of a row, with a bound on its room. -/
theorem run_cut3 {g n lo hi : Nat} (h1 : lo ≤ hi) (h2 : hi ≤ n) : ∃ ao : Option Addr, (0 < hi - lo → ao = some ⟨g, lo, none⟩) ∧
    ∀ w : World, (Instr.slice 49 (.slice (some ⟨g, 0, none⟩) n n) (some (.int .i64 (lo : Int))) (some (.int .i64 (hi : Int))) (some (.int .i64 (hi : Int)))).run Tryz.prog w = .ok (.slice ao (hi - lo) (hi - lo)) w := by
  by_cases h : hi = lo
  · subst h
    refine ⟨some ⟨g, 0, none⟩, fun h => absurd h (by omega), fun w => ?_⟩
    simp [Instr.slice, run_underlying under_polys, Instr.sliceBounds, go_sem]
    intro h
    omega
  · refine ⟨some ⟨g, lo, none⟩, fun _ => rfl, fun w => ?_⟩
    simp [Instr.slice, run_underlying under_polys, Instr.sliceBounds, go_sem]
    rw [if_pos h2, if_pos h1, if_neg h]

theorem VM.get {w : World} {base b : Nat} {vs : List Int} {c : Int} (h : VM w base b vs vs.length) (hn : vs.Nodup) (hc : -1 - c ∈ vs) : ∃ L u, MapV w b L ∧ L.lookup c = some u ∧ OM w base u (vAt vs c) := by
  obtain ⟨L, m1, m2, m3, m4⟩ := h
  have h1 := idx_get hc
  have h2 := m4 _ _ (List.getElem?_eq_some_iff.1 h1).1 h1
  rw [show -1 - (-1 - c) = c by omega] at h2
  obtain ⟨u, hu⟩ := Option.isSome_iff_exists.1 h2
  obtain ⟨i, i1, i2, i3⟩ := m3 _ _ hu
  refine ⟨L, u, m1, hu, ?_⟩
  unfold vAt
  rw [idx_of hn i2]
  exact i3

set_option maxRecDepth 100000 in
set_option maxHeartbeats 6400000 in
theorem meaningOf_any (sv tv : Value) (sig : List Sy) (l : List Ip) (vs t : List Int) (base gS b : Nat) (w : World) (hs : Sg w sv sig) (ht : Is w tv t) (hM : MgM w base gS b sig l vs) (hbase : base ≤ w.heap.size) (hin : inE sig l = 0) (hL : ∀ x ∈ l, ∀ m ∈ x.2, Lim m.1) (hrow : rowE sig t = 0) (hvs : ∀ c ∈ t, c < 0 → (-1 - c) ∈ vs) (hnd : vs.Nodup) (hsm : vs.length ≤ 512) (hb : t.length * 24 ≤ 140737488355328) :
    Calls Tryz.prog 47 #[.agg #[sv, .slice (some ⟨gS, 0, none⟩) sig.length sig.length, .map (some b)], tv] w fun e w' =>
      (∃ v', e = .returned (.tuple #[v', .int .i64 (ovE (ofV sig l vs t))]) ∧ OM w' base v' (ovL (ofV sig l vs t))) ∧ Below w.heap.size w w' := by
  obtain ⟨so, sc, rfl, hso, hsc, _⟩ := Row.flat hs
  obtain ⟨ta, tc, rfl, hto, htc, _⟩ := Row.flat ht
  unfold maxLen at hsc htc
  have hsig := (inE_ok hin).1
  have hAr := sigE_ok hsig
  have HAr := hid hAr
  have HFirst := hid (row_first.1 hrow)
  have HSp : Hid (∀ c : Int, 0 ≤ c → c.toNat < sig.length → Ch (spol l c) ∧ varsN (spol l c) ≤ arN sig c) := fun c h0 h1 => (in_spol hin hL h0 h1).2
  have HVp : Hid (∀ c ∈ t, c < 0 → Ch (vAt vs c)) := fun c hc h0 => by
    unfold vAt
    have h1 := idx_get (hvs c hc h0)
    have h2 := (List.getElem?_eq_some_iff.1 h1).1
    exact vpol_ch (by omega)
  have HOne := ofS_one (sp := spol l) (vp := vAt vs) hAr hrow
  have HOv : Hid (∀ p, ofS sig (spol l) (vAt vs) t = some [p] → ofV sig l vs t = some p) := fun p h => ofV_some hsm h
  have HS := hid hs
  have HT := hid ht
  have HMg := hid hM
  have HVs := hid hvs
  have HNd := hid hnd
  have htp : 0 < t.length := by
    cases t with
    | nil => simp [rowE, firstT] at hrow
    | cons c u => simp
  have HOne2 := hid HOne
  clear hs ht hM hin hL hrow hvs hnd HOne hsig hAr
  obtain ⟨W0, hW0⟩ : ∃ X, X = w.alloc (.cells #[.slice so sig.length sc, .slice (some ⟨gS, 0, none⟩) sig.length sig.length, .map (some b)] 85) := ⟨_, rfl⟩
  have B0 : Hid (Below w.heap.size w W0) := by rw [hW0]; exact below_alloc _
  have C0 : Hid (MC W0 w.heap.size (.slice so sig.length sc) gS sig.length b) := by rw [hW0]; exact hid (heap_alloc_new _ _)
  have hmk := run_make_polys W0 t.length (by omega)
  obtain ⟨W1, hW1⟩ : ∃ X, X = W0.alloc (.cells (List.replicate t.length (Value.slice none 0 0)).toArray 31) := ⟨_, rfl⟩
  have B1 : Hid (Below W0.heap.size W0 W1) := by rw [hW1]; exact below_alloc _
  have V1 : Hid (VB W1 W0.heap.size (List.replicate t.length (Value.slice none 0 0))) := by rw [hW1]; exact hid (heap_alloc_new _ _)
  rw [← hW1] at hmk
  clear hW1
  go_enter Tryz.func47, Tryz.ntmps47
  go_upto_region 1 with fail
  rw [← hW0]
  clear hW0
  have C1 := hid (C0.out.later B1.out)
  have BW := hid (below_step B0.out B1.out)
  have hgL : w.heap.size ≤ W0.heap.size := B0.out.size
  go_upto_region 3 with fail
  clear hmk B0 B1 C0
  generalize W0.heap.size = gL at V1 hgL ⊢
  generalize hgm : w.heap.size = gm at C1 ⊢
  have HGm := hid hgm
  clear hgm
  go_wp2
  go_loopw [7, 8] (fun x y wr => ∃ (k tp : Nat) (st : List (List Mn)) (vals : List Value), k ≤ t.length ∧ y = .int .i64 ((k : Int) - 1) ∧ x = .int .i64 (tp : Int) ∧ tp + st.length = t.length ∧ ofS sig (spol l) (vAt vs) (t.drop k) = some st ∧ VB wr gL vals ∧ vals.length = t.length ∧ (∀ (i : Nat) p, st[i]? = some p → ∃ u, vals[tp + i]? = some u ∧ OM wr base u p) ∧ MC wr gm (.slice so sig.length sc) gS sig.length b ∧ Below w.heap.size w wr) (fun _ y _ => (intOf y + 1).toNat)
  case atStart => exact ⟨t.length, t.length, [], _, Nat.le_refl _, rfl, rfl, by simp, by rw [List.drop_length]; rfl, V1.out, by simp, fun i p h => (by simp at h), C1.out, BW.out⟩
  case round =>
    clear V1 C1 BW
    obtain ⟨k, tp, st, vals, hk, hy, rfl, htl, hof, hvb, hvl, hst, hmc, hbl⟩ := hrel
    have HOf := hid hof
    have HVB := hid hvb
    have HVl := hid hvl
    have HSt := hid hst
    have HMC := hid hmc
    have BL := hid hbl
    have hsh := ofS_short hof
    rw [List.length_drop] at hsh
    clear hof hvb hvl hst hmc hbl
    cases k with
    | zero =>
      have hy0 : u8 = .int .i64 (-1) := hy
      subst hy0
      clear hy
      have hof := HOf.out
      rw [List.drop_zero] at hof
      obtain ⟨p, hp⟩ : ∃ p, st = [p] := by
        rcases HOne2.out with h | ⟨p, h⟩
        · rw [h] at hof; cases hof
        · rw [h] at hof; cases hof; exact ⟨p, rfl⟩
      subst hp
      obtain ⟨u, hu1, hu2⟩ := HSt.out 0 p rfl
      rw [Nat.add_zero] at hu1
      have HR : Hid (ofV sig l vs t = some p) := by exact HOv.out p hof
      have y0 := HVB.out.cell hu1
      have htl2 : tp < t.length := by simp at htl; omega
      obtain ⟨ua, uc, hua⟩ := hu2.slice
      subst hua
      have HO := hid hu2
      clear hof hu1 hu2 htl HSt
      go_wp2
      go_ret2
      rw [HR.out]
      exact ⟨⟨_, rfl, HO.out⟩, BL.out⟩
    | succ j =>
      have hyj : u8 = .int .i64 (j : Int) := by rw [hy]; congr 1; omega
      subst hyj
      clear hy
      have hjt : j < t.length := hk
      obtain ⟨g, off, c, rfl, hc1, hc2, hc3, hc4⟩ := HT.out.at hjt
      have hct := (Kp.of_below BL.out).cell _ _ hc2
      have hmem : c ∈ t := List.mem_of_getElem? hc1
      have HSpl : Hid (t = t.take j ++ c :: t.drop (j + 1)) := by show _ = _; rw [← drop_get hc1, List.take_append_drop]
      have HDr : Hid (t.drop j = c :: t.drop (j + 1)) := hid (drop_get hc1)
      have HF2 : Hid (firstT sig 1 0 (t.take j ++ c :: t.drop (j + 1)) = (((t.take j ++ c :: t.drop (j + 1)).length : Int), 0)) := by show _ = _; rw [← HSpl.out]; exact HFirst.out
      have htp1 : 1 ≤ tp := by omega
      obtain ⟨q, rfl⟩ : ∃ q, tp = q + 1 := ⟨tp - 1, by omega⟩
      clear hc1 hc2 htp1
      by_cases hneg : c < 0
      · obtain ⟨L, u, hm, hlk, hou⟩ := (HMg.out.var.later BL.out).get HNd.out (HVs.out c hmem hneg)
        obtain ⟨ua, uc, hua⟩ := hou.slice
        subst hua
        have hrun := hm.lookOne under_vmap (zero_monos wr) hc3 hc4 hlk
        have y2 := HMC.out.cells.2.2
        have hq : q < vals.length := by rw [HVl.out]; omega
        have hcq := HVB.out.cell (List.getElem?_eq_getElem hq)
        have hfr := HVB.out.frozen q
        have HO := hid hou
        have HNew : Hid (ofS sig (spol l) (vAt vs) (t.drop j) = some (vAt vs c :: st)) := by show _ = _; rw [HDr.out]; exact ofS_var HOf.out hneg
        have hql : q < t.length := by omega
        have htl2 : q + (st.length + 1) = t.length := by omega
        have HTl := hid htl2
        clear hm hlk hou hmem hsh htl htl2
        go_wp2
        go_roundw
        case rel =>
          refine ⟨j, q, vAt vs c :: st, _, by omega, by go_num, rfl, HTl.out, HNew.out, HVB.out.set _ _, by rw [List.length_set]; exact HVl.out, fun i p hi => ?_, HMC.out.setVB HVB.out, BL.out.setCell (p := ⟨gL, q, none⟩) (by rw [← HGm.out] at *; exact hgL) _⟩
          cases i with
          | zero =>
            simp at hi
            subst hi
            exact ⟨_, by rw [Nat.add_zero, List.getElem?_set_self hq], HO.out.setVB HVB.out⟩
          | succ i =>
            rw [List.getElem?_cons_succ] at hi
            obtain ⟨x, x1, x2⟩ := HSt.out i p hi
            refine ⟨x, ?_, x2.setVB HVB.out⟩
            rw [List.getElem?_set_ne (by omega), ← x1]
            congr 1
            omega
        case measure => simp [intOf] <;> omega
      · obtain ⟨ci, rfl⟩ := Int.eq_ofNat_of_zero_le (Int.not_lt.1 hneg)
        obtain ⟨k1, k2, k3⟩ := ofS_big HAr.out HSp.out HF2.out (fun d hd h0 => HVp.out d (List.mem_of_mem_drop hd) h0) HOf.out hneg
        rw [Int.toNat_natCast] at k1
        obtain ⟨gs, os, sn, ar, rfl, hsm2, _, hsa, hal, hau, _⟩ := HS.out.at k1
        have har := HAr.out _ (List.mem_of_getElem? hsm2)
        simp only at har
        obtain ⟨an, rfl⟩ := Int.eq_ofNat_of_zero_le har.1
        have hAn : arN sig (ci : Int) = an := by unfold arN; rw [Int.toNat_natCast, hsm2]; rfl
        rw [hAn] at k2 k3
        have HAn := hid hAn
        have x2 := (Kp.of_below BL.out).cell _ _ hsa
        have y0 := HMC.out.cells.1
        have y1 := HMC.out.cells.2.1
        have hbn : q + 1 + an ≤ t.length := by omega
        have hcn : decide ((ci : Int) < 0) = false := decide_eq_false (by omega)
        clear hAn hsm2 hsa hal hau hmem hneg har
        go_upto_region 11 with fail
        clear hct x2 y0
        obtain ⟨pv, hpv1, hpv2⟩ : ∃ u, (∃ vals2, VB wr gS vals2 ∧ vals2[ci]? = some u) ∧ Ms wr u (spol l (ci : Int)) := by
          obtain ⟨vals2, v1, _, v3⟩ := HMg.out.sym
          obtain ⟨u, u1, u2⟩ := v3 ci k1
          exact ⟨u, ⟨vals2, v1.later BL.out, u1⟩, u2.kp (Kp.of_below BL.out)⟩
        obtain ⟨vals2, v1, v2⟩ := hpv1
        obtain ⟨a1, c1, rfl, hp1, hp2, _⟩ := Row.flat hpv2
        unfold maxLen at hp2
        have y3 := v1.cell v2
        obtain ⟨ao, hao, hsl⟩ := run_cut3 (g := gL) (n := t.length) (lo := q + 1) (hi := q + 1 + an) (by omega) hbn
        rw [show q + 1 + an - (q + 1) = an by omega] at hao hsl
        have HPs : Hid (Ps wr (.slice ao an an) (st.take an)) := by
          by_cases h0 : an = 0
          · subst h0
            exact hid (Row.nil (by unfold maxLen; omega))
          · rw [hao (by omega)]
            refine hid (HVB.out.ps (by rw [List.length_take, Nat.min_eq_left k2]) (Nat.le_refl _) (by unfold maxLen; omega) (fun i p hi => ?_))
            rw [List.getElem?_take] at hi
            split at hi
            · obtain ⟨x, x1, x2⟩ := HSt.out i p hi
              exact ⟨x, x1, x2.ms⟩
            · cases hi
        have HPv := hid hpv2
        have HSl : Hid (∀ w : World, (Instr.slice 49 (.slice (some ⟨gL, 0, none⟩) t.length t.length) (some (.int .i64 ((q : Int) + 1))) (some (.int .i64 ((q : Int) + 1 + (an : Int)))) (some (.int .i64 ((q : Int) + 1 + (an : Int))))).run Tryz.prog w = .ok (.slice ao an an) w) := fun w => by
          have h9 := hsl w
          rw [show ((q + 1 + an : Nat) : Int) = (q : Int) + 1 + (an : Int) by omega, show ((q + 1 : Nat) : Int) = (q : Int) + 1 by omega] at h9
          exact h9
        clear hpv2 hsl hao v1 v2
        have hS : Kp wr wr.drew := Kp.of_below (drawn_belowI wr)
        refine wp_region_held_drew (S := fun w' => Kp wr w') (by kernel_rfl) hS (fun _ => ?_)
        obtain ⟨W0, hW0⟩ : ∃ X, X = wr.drew := ⟨_, rfl⟩
        have bW0 : Below wr.heap.size wr W0 := by rw [hW0]; exact drawn_belowI wr
        rw [← hW0] at hS ⊢
        clear hW0
        refine wpAnyH_take (i := 0) (v := .pointer (some ⟨gm, 1, none⟩)) rfl (by kernel_rfl) (by kernel_rfl) (by kernel_rfl) (fun _ _ _ h => h) (Or.inl ⟨by rfl, fun w' h => by go_simp⟩) hS ?_
        try simp only [Act.put, List.setIfInBounds_toArray]
        refine wpAnyH_take (i := 1) (v := .slice (some ⟨gS, 0, none⟩) sig.length sig.length) rfl (by kernel_rfl) (by kernel_rfl) (by kernel_rfl) (fun _ _ _ h => h) (Or.inl ⟨by rfl, fun w' h => by have hh := h.cell _ _ y1; go_simp⟩) hS ?_
        try simp only [Act.put]
        refine wpAnyH_take (i := 2) (v := .int .i64 (ci : Int)) rfl (by kernel_rfl) (by kernel_rfl) (by kernel_rfl) (fun _ _ _ h => h) (Or.inl ⟨by rfl, fun w' h => by go_simp⟩) hS ?_
        try simp only [Act.put]
        refine wpAnyH_take (i := 3) (v := .pointer (some ⟨gS, ci, none⟩)) rfl (by kernel_rfl) (by kernel_rfl) (by kernel_rfl) (fun _ _ _ h => h) (Or.inl ⟨by rfl, fun w' h => by go_simp⟩) hS ?_
        try simp only [Act.put]
        refine wpAnyH_take (i := 4) (v := .slice a1 (spol l (ci : Int)).length c1) rfl (by kernel_rfl) (by kernel_rfl) (by kernel_rfl) (fun _ _ _ h => h) (Or.inl ⟨by rfl, fun w' h => by have hh := h.cell _ _ y3; go_simp⟩) hS ?_
        try simp only [Act.put]
        refine wpAnyH_take (i := 5) (v := .slice (some ⟨gL, 0, none⟩) t.length t.length) rfl (by kernel_rfl) (by kernel_rfl) (by kernel_rfl) (fun _ _ _ h => h) (Or.inl ⟨by rfl, fun w' h => by go_simp⟩) hS ?_
        try simp only [Act.put]
        refine wpAnyH_take (i := 6) (v := .int .i64 ((q : Int) + 1)) rfl (by kernel_rfl) (by kernel_rfl) (by kernel_rfl) (fun _ _ _ h => h) (Or.inl ⟨by rfl, fun w' h => by go_simp⟩) hS ?_
        try simp only [Act.put]
        refine wpAnyH_take (i := 7) (v := .int .i64 ((q : Int) + 1 + (an : Int))) rfl (by kernel_rfl) (by kernel_rfl) (by kernel_rfl) (fun _ _ _ h => h) (Or.inl ⟨by rfl, fun w' h => by go_simp⟩) hS ?_
        try simp only [Act.put]
        refine wpAnyH_take (i := 8) (v := .int .i64 ((q : Int) + 1 + (an : Int))) rfl (by kernel_rfl) (by kernel_rfl) (by kernel_rfl) (fun _ _ _ h => h) (Or.inl ⟨by rfl, fun w' h => by go_simp⟩) hS ?_
        try simp only [Act.put]
        refine wpAnyH_take (i := 9) (v := .slice ao an an) rfl (by kernel_rfl) (by kernel_rfl) (by kernel_rfl) (fun _ _ _ h => h) (Or.inl ⟨by rfl, fun w' h => by have hh := HSl.out w'; go_simp⟩) hS ?_
        try simp only [Act.put]
        refine wpAnyH_ready (rs := [10]) (by kernel_rfl) (by simp) (AllReadyH.cons rfl (fun K hK => ?_) (AllReadyH.nil))
        go_simp
        refine (compose_any _ _ (spol l (ci : Int)) (st.take an) W0 (HPv.out.kp hS) (HPs.out.kp hS)).mono ?_
        rintro e w4 ⟨v4, rfl, ho4, hb4⟩
        have b4 := below_step bW0 hb4
        have hS4 : Kp wr w4 := Kp.of_below b4
        refine hK.out _ _ hS4 (fun _ => ?_)
        clear hK K hS
        have hS := hS4
        clear hS4
        have hb0 : base ≤ W0.heap.size := Nat.le_trans hbase (Nat.le_trans BL.out.size bW0.size)
        obtain ⟨v4a, v4c, hv4⟩ := ho4.slice
        have HO4 := hid (ho4.mono hb0)
        clear ho4
        subst hv4
        generalize hlen : (compL (spol l (ci : Int)) (st.take an)).length = n4 at HO4 ⊢
        clear hlen
        generalize hz : compE (spol l (ci : Int)) (st.take an) = z at k3 ⊢
        have HZ := hid hz
        clear hz
        try simp only [Act.put, List.setIfInBounds_toArray, List.set_cons_zero, List.set_cons_succ]
        refine wpAnyH_take (i := 11) (v := .tuple #[.slice v4a n4 v4c, .int .i64 z]) rfl (by kernel_rfl) (by kernel_rfl) (by kernel_rfl) (fun _ _ _ h => h) (Or.inl ⟨by rfl, fun w' h => by go_simp⟩) hS ?_
        try simp only [Act.put, List.setIfInBounds_toArray]
        refine wpAnyH_take (i := 12) (v := .slice v4a n4 v4c) rfl (by kernel_rfl) (by kernel_rfl) (by kernel_rfl) (fun _ _ _ h => h) (Or.inl ⟨by rfl, fun w' h => by go_simp⟩) hS ?_
        try simp only [Act.put]
        refine wpAnyH_take (i := 13) (v := .int .i64 z) rfl (by kernel_rfl) (by kernel_rfl) (by kernel_rfl) (fun _ _ _ h => h) (Or.inl ⟨by rfl, fun w' h => by go_simp⟩) hS ?_
        try simp only [Act.put]
        refine wpAnyH_take (i := 14) (v := .slice v4a n4 v4c) rfl (by kernel_rfl) (by kernel_rfl) (by kernel_rfl) (fun _ _ _ h => h) (Or.inl ⟨by rfl, fun w' h => by go_simp⟩) hS ?_
        try simp only [Act.put]
        refine wpAnyH_take (i := 15) (v := .int .i64 z) rfl (by kernel_rfl) (by kernel_rfl) (by kernel_rfl) (fun _ _ _ h => h) (Or.inl ⟨by rfl, fun w' h => by go_simp⟩) hS ?_
        try simp only [Act.put]
        refine wpAnyH_done (by kernel_rfl) ?_ _
        have B4 := hid (below_step BL.out b4)
        have V4 := hid (HVB.out.later b4)
        have M4 := hid (HMC.out.later b4)
        have HSt4 : Hid (∀ (i : Nat) p, st[i]? = some p → ∃ u, vals[q + 1 + i]? = some u ∧ OM w4 base u p) := fun i p hi => by
          obtain ⟨x, x1, x2⟩ := HSt.out i p hi
          exact ⟨x, x1, x2.later b4⟩
        clear hS HSt HVB HMC BL bW0 hb4 b4 HPs HPv HSl y1 y3 hp1 hp2
        try simp only [List.getElem_toArray, List.getElem_cons_succ, List.getElem_cons_zero, List.setIfInBounds_toArray, List.set_cons_succ, List.set_cons_zero]
        have hneg : ¬ (ci : Int) < 0 := by omega
        rcases k3 with h0 | h2
        · subst h0
          have HNew : Hid (ofS sig (spol l) (vAt vs) (t.drop j) = some (compL (spol l (ci : Int)) (st.take an) :: st.drop an)) := by
            have h9 := ofS_yes (sp := spol l) HOf.out hneg (by rw [HAn.out]; exact HZ.out)
            rw [HAn.out] at h9
            show _ = _
            rw [HDr.out]
            exact h9
          have hq : q + an < vals.length := by rw [HVl.out]; omega
          have hcq := V4.out.cell (List.getElem?_eq_getElem hq)
          have hfr := V4.out.frozen (q + an)
          have hql : q + an < t.length := by omega
          have htl2 : q + an + (st.length - an + 1) = t.length := by omega
          have HTl : Hid (q + an + (compL (spol l (ci : Int)) (st.take an) :: st.drop an).length = t.length) := by show _ = _; rw [List.length_cons, List.length_drop]; exact htl2
          clear hsh htl htl2 hcn hneg
          go_wp2
          go_roundw
          case rel =>
            refine ⟨j, q + an, _, _, by omega, by go_num, by go_num, HTl.out, HNew.out, V4.out.set _ _, by rw [List.length_set]; exact HVl.out, fun i p hi => ?_, M4.out.setVB V4.out, B4.out.setCell (p := ⟨gL, q + an, none⟩) (by rw [← HGm.out] at *; exact hgL) _⟩
            cases i with
            | zero =>
              simp at hi
              subst hi
              exact ⟨_, by rw [Nat.add_zero, List.getElem?_set_self hq], HO4.out.setVB V4.out⟩
            | succ i =>
              rw [List.getElem?_cons_succ, List.getElem?_drop] at hi
              obtain ⟨x, x1, x2⟩ := HSt4.out _ p hi
              refine ⟨x, ?_, x2.setVB V4.out⟩
              rw [List.getElem?_set_ne (by omega), ← x1]
              congr 1
              omega
          case measure => simp [intOf] <;> omega
        · subst h2
          have HNone : Hid (ofV sig l vs t = none) := by
            have h9 := ofS_no (sp := spol l) HOf.out hneg (by rw [HAn.out, HZ.out]; decide)
            rw [← HDr.out] at h9
            have h8 := ofS_noneL h9 (t.take j)
            rw [List.take_append_drop] at h8
            exact hid (ofV_none h8)
          clear hneg hcn
          go_wp2
          go_ret2
          rw [HNone.out]
          exact ⟨⟨_, rfl, OM.nil _ _⟩, B4.out⟩

end Go.Proofs.YtdjmjhlbjcgoiaaGreatDoor

/- The document's End and place walked. -/
namespace Go.Proofs.YtdjmjhlbjcgoiaaGreatDoor
open Go.RowKit Go.Maps Go.BigFrame

theorem codeD_neg {sig : List Sy} {c e : Int} (h : codeD sig c = some e) (hc : c < 0) : e = -1 := by
  unfold codeD at h
  split at h
  · cases h
  · first
    | (rw [if_pos hc] at h; cases h; rfl)
    | (cases h; rfl)

end Go.Proofs.YtdjmjhlbjcgoiaaGreatDoor

/- Match of package match walked. -/
namespace Go.Proofs.YtdjmjhlbjcgoiaaGreatDoor
open Go.RowKit Go.Maps

theorem rs_two {w : World} {pv tv : Value} {p t : List Int} (hp : Is w pv p) (ht : Is w tv t) (h1 : p.length * 8 ≤ 140737488351232) (h2 : t.length * 8 ≤ 140737488351232) : Rs (w.alloc (.cells #[pv, tv] 30)) (.slice (some ⟨w.heap.size, 0, none⟩) 2 2) [p, t] := by
  have hk := Kp.of_below (below_alloc (w := w) (.cells #[pv, tv] 30))
  refine ⟨_, 2, rfl, Nat.le_refl _, by simp [maxLen], fun _ => ⟨w.heap.size, 0, rfl, by simp, fun k x hx => ?_⟩⟩
  match k, hx with
  | 0, hx =>
    simp at hx
    subst hx
    exact ⟨h1, pv, cell_new rfl, hp.kp hk⟩
  | 1, hx =>
    simp at hx
    subst hx
    exact ⟨h2, tv, cell_new rfl, ht.kp hk⟩
  | k + 2, hx => simp at hx

end Go.Proofs.YtdjmjhlbjcgoiaaGreatDoor

/- What the binds of a match make of the pattern, plainly. -/
namespace Go.Proofs.YtdjmjhlbjcgoiaaGreatDoor
open Go.RowKit Go.Maps

theorem first_codes2 {sig : List Sy} : ∀ (t : List Int) (m : Int) (i : Nat), firstT sig m i t = ((i : Int) + t.length, 0) → ∀ c ∈ t, codeD sig c ≠ none
  | [], _, _, _, c, hc => by simp at hc
  | a :: t, m, i, h, c, hc => by
    unfold firstT at h
    cases ha : codeD sig a with
    | none => rw [ha] at h; simp at h
    | some x =>
      rw [ha] at h
      simp only at h
      by_cases h0 : m + x = 0
      · rw [if_pos h0] at h
        have h2 := congrArg Prod.fst h
        simp only [List.length_cons] at h2
        have h3 : t.length = 0 := by omega
        obtain rfl := List.eq_nil_of_length_eq_zero h3
        rw [List.mem_singleton] at hc
        subst hc
        rw [ha]
        simp
      · rw [if_neg h0] at h
        rcases List.mem_cons.1 hc with rfl | hc
        · rw [ha]; simp
        · refine first_codes2 t (m + x) (i + 1) ?_ c hc
          rw [h]
          simp only [List.length_cons]
          congr 1
          push_cast
          omega

theorem codes_of {sig : List Sy} {p : List Int} (h : rowE sig p = 0) {c : Int} (hc : c ∈ p) : -1048576 ≤ c := by
  have h1 := row_first.1 h
  have h2 := first_codes2 p 1 0 (by rw [h1]; simp) c hc
  by_cases h3 : c < -1048576
  · exact absurd (codeD_none (.inr h3)) h2
  · omega

end Go.Proofs.YtdjmjhlbjcgoiaaGreatDoor
