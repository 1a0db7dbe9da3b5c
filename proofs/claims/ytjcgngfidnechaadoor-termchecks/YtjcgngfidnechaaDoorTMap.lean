/- A map from numbers to values in memory; a row joined to one's own. -/
import Derived.Test.YtjcgngfidnechaaDoorTCheck
import Derived.Test.YtjcgngfidnechaaDoorTVars
import Derived.Maps.Own
import Derived.Maps.OwnOps
import Derived.Maps.OwnSet
namespace Go.Proofs.YtjcgngfidnechaaDoor
open Go.RowKit Go.Maps

theorem join_ints (ty : TypeId) {w : World} {base : Nat} {x u : Value} {xs es : List Int} (ho : OwI w base x xs) (hs : Is w u es) (hb : base ≤ w.heap.size) (hl : (xs.length + es.length) * 8 ≤ 140737488355328) :
    ∃ v' w', (Builtin.append_ #[27, 27] ty #[x, u]).run Tryd.prog w = .ok v' w' ∧ OwI w' base v' (xs ++ es) ∧ w.grownBy w' x.ownBlock := by
  obtain ⟨i0, hi, hz0, hz1, hz2⟩ := info_parts info_int
  have hZ : ZI es := fun k x hk => by
    obtain ⟨ao, cap, rfl, _, _, hx⟩ := Row.flat hs
    obtain ⟨_, _, y, _, hy, h1, h2, _⟩ := hx k (List.getElem?_eq_some_iff.1 hk).1
    rw [hk] at hy
    cases hy
    exact ⟨h1, h2⟩
  have hZ2 : ZI (xs ++ es) := fun k y hk => by
    by_cases hkl : k < xs.length
    · rw [List.getElem?_append_left hkl] at hk
      exact ho.1 k y hk
    · rw [List.getElem?_append_right (by omega)] at hk
      exact hZ _ y hk
  obtain ⟨ao, cap, rfl, hc, hm, hx⟩ := hs
  by_cases h0 : es.length = 0
  · obtain rfl : es = [] := List.eq_nil_of_length_eq_zero h0
    obtain ⟨bo, bc, rfl, hbc, _⟩ := ho.shape
    refine ⟨_, w, run_append_nothing w 27 27 ty 3 i0 under_ints hi _ xs.length bc hbc _ ?_, by rw [List.append_nil]; exact ho, World.grownBy.refl _ _⟩
    cases ao with
    | none => exact Src.ofNil w under_ints _
    | some a => exact Src.ofSlice w under_ints a 0 _ [] (by simp) (fun j u hj => (by simp at hj)) (fun u hu => (by simp at hu))
  · obtain ⟨g', off, rfl, hg, hcell⟩ := hx (by omega)
    obtain ⟨v', w', hr, h2, h3, _, _⟩ := run_append_own_at (P := Tryd.prog) w base 27 ty 3 i0 _ 1 8 under_ints hi hz0 hz1 hz2 rfl (by decide) _ xs.length (xs.map I64) ho.2 ⟨g', off, none⟩ es.length cap (es.map I64) (by simp) (fun j u hj => by
      rw [List.getElem?_map] at hj
      cases hk : es[j]? with
      | none => rw [hk] at hj; simp at hj
      | some x =>
        rw [hk] at hj
        simp at hj
        subst hj
        rw [Addr.add_lit]
        have := (hcell j x hk).2.2
        rw [Nat.mul_one] at this
        exact this) (fun u hu => by obtain ⟨x, _, rfl⟩ := List.mem_map.1 hu; rfl) (by unfold maxLen; omega) (by omega) hb
    refine ⟨v', w', hr, ⟨hZ2, ?_⟩, h3⟩
    rw [List.length_append, List.map_append]
    exact h2

/-- An element, read as the value that it is. -/
def RV (v : Value) : Option (DataW Value × List MemPlace) := some (.held v, [])

/-- Block b of w is the map L. -/
def MapV (w : World) (b : Nat) (L : List (Int × Value)) : Prop :=
  ∃ D : DataW Value, w.ownsMap Tryd.prog 3 RV b L.length D ∧ Maps.size D = L.length ∧
    (∀ k v, L.lookup k = some v → ∀ z, D.atKey (.int .i64 k) z = .held v) ∧ (∀ k, Maps.has D (.int .i64 k) = (L.lookup k).isSome)

theorem MapV.isMap {w : World} {b : Nat} {L : List (Int × Value)} (h : MapV w b L) : ∃ es clock, w.heap[b]? = some (.map es clock) := by
  obtain ⟨D, ⟨es, clock, hb, _⟩, _⟩ := h
  exact ⟨es, clock, hb⟩

theorem MapV.lt {w : World} {b : Nat} {L : List (Int × Value)} (h : MapV w b L) : b < w.heap.size := by
  obtain ⟨es, clock, hb⟩ := h.isMap
  exact (Array.getElem?_eq_some_iff.1 hb).1

theorem MapV.kept {w w' : World} {b : Nat} {L : List (Int × Value)} {row : Option Nat} (h : MapV w b L) (hg : w.grownBy w' row) (hr : row ≠ some b) : MapV w' b L := by
  obtain ⟨D, h1, h2, h3, h4⟩ := h
  exact ⟨D, h1.kept hg (fun e => hr e.symm), h2, h3, h4⟩

theorem MapV.later {w w' : World} {b : Nat} {L : List (Int × Value)} (h : MapV w b L) (hb : Below w.heap.size w w') : MapV w' b L :=
  h.kept (grown_of_below hb none) (by simp)

theorem MapV.made (w : World) : MapV (w.alloc (.map #[] 0)) w.heap.size [] :=
  ⟨DataW.map [], World.ownsMap_made w _ _ _, rfl, fun k v hk => (by cases hk), fun k => (by simp [Maps.has])⟩

theorem MapV.look {w : World} {b : Nat} {L : List (Int × Value)} (h : MapV w b L) {t e : TypeId} {z : Value} (ht : Tryd.prog.underlying t = some (.map 3 e)) (hz : (zeroValue e).run Tryd.prog w = .ok z w) {k : Int} (h1 : -9223372036854775808 ≤ k) (h2 : k ≤ 9223372036854775807) :
    (Instr.lookup t (.map (some b)) (.int .i64 k) true).run Tryd.prog w = .ok (.tuple #[(L.lookup k).getD z, .bool (L.lookup k).isSome]) w := by
  obtain ⟨D, hD, _, ha, hh⟩ := h
  obtain ⟨v, ps, hrun, hv⟩ := hD.look_ok set_keyed ht hz (zd := .held z) (zp := []) rfl (key_int h1 h2)
  rw [hrun, hh]
  have hv2 : D.atKey (.int .i64 k) (.held z) = .held v := by
    simp only [RV, Option.some.injEq, Prod.mk.injEq] at hv
    exact hv.1.symm
  cases hl : L.lookup k with
  | none =>
    rw [atKey_of_not_has (by rw [hh, hl]; rfl)] at hv2
    rw [DataW.held.inj hv2]
    simp only [Option.getD, Option.isSome]
  | some u =>
    rw [ha k u hl] at hv2
    rw [DataW.held.inj hv2]
    simp only [Option.getD, Option.isSome]

theorem MapV.store {w : World} {b : Nat} {L : List (Int × Value)} (h : MapV w b L) {t e : TypeId} (ht : Tryd.prog.underlying t = some (.map 3 e)) {k : Int} (h1 : -9223372036854775808 ≤ k) (h2 : k ≤ 9223372036854775807) (hn : L.lookup k = none) (hL : L.length < maxLen) (v : Value) :
    ∃ w', (Instr.mapUpdate t (.map (some b)) (.int .i64 k) v).run Tryd.prog w = .ok () w' ∧ MapV w' b ((k, v) :: L) ∧ w.grownBy w' (some b) := by
  obtain ⟨D, hD, hs, ha, hh⟩ := h
  have hT := hD.tidy set_keyed
  have hK : WideAt.IsKeyLit (.int .i64 k) := set_keyed.key (key_int h1 h2)
  obtain ⟨w', hrun, r1, r2⟩ := hD.store set_keyed ht hL (key_int h1 h2) (val := v) (d := .held v) (ps := []) rfl
  refine ⟨w', hrun, ⟨D.put (.int .i64 k) (.held v), r1, ?_, fun k' v' hl z => ?_, fun k' => ?_⟩, r2.grown⟩
  · rw [size_put hT, hs, hh, hn]
    rfl
  · rw [List.lookup_cons] at hl
    by_cases e : k' = k
    · subst e
      simp at hl
      subst hl
      exact atKey_put_same hT.isMap hK _ z
    · rw [show (k' == k) = false by simpa using e] at hl
      rw [atKey_put_other (by simpa using e)]
      exact ha k' v' hl z
  · rw [List.lookup_cons]
    by_cases e : k' = k
    · subst e
      rw [has_put_same hT.isMap hK]
      simp
    · rw [has_put_other (by simpa using e), hh, show (k' == k) = false by simpa using e]

theorem MapV.len {w : World} {b : Nat} {L : List (Int × Value)} (h : MapV w b L) {t e : TypeId} (ht : Tryd.prog.underlying t = some (.map 3 e)) (ty : TypeId) : (Builtin.len_ #[t] ty #[.map (some b)]).run Tryd.prog w = .ok (.int .i64 (L.length : Int)) w := by
  obtain ⟨D, h1, h2, _⟩ := h
  have := h1.len ht ty
  rw [h2] at this
  exact this

end Go.Proofs.YtjcgngfidnechaaDoor
