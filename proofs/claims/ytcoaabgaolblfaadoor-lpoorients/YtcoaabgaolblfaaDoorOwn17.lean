/- Texts of the proof, one behind the other. -/
import Derived.Test.YtcoaabgaolblfaaDoorOwn1
import Derived.Test.YtcoaabgaolblfaaDoorRows
import Derived.ProofKit
import Derived.OpenShut
import Derived.SizedLaws
import Derived.Handed
import Derived.LaidLaws
import Derived.LaidHandle
import Derived.MakeChecks
import Derived.Stop.Joined
import Derived.Lib.LaidIn
import Derived.Lib.LaidU8T
import Derived.ShutString
import Derived.ChangeOld
import Derived.Deep.Slices
import Derived.DeepKeys4
import Derived.Test.YtcoaabgaolblfaaDoorOwn3
import Derived.Deep.SlicePairs
import Derived.ChangeSame
import Derived.Test.YtcoaabgaolblfaaDoorOwn12
import Derived.Deep.Strs
/- Rows that came in, the tables of the library, the witness. -/
namespace Go.Proofs.YtcoaabgaolblfaaDoor
open Go.ChangeShapes Go.WideShapes Go.ChangeAt Go.RowKit Go.Shelf

theorem own : ownKnob Tryd.prog.godebug = none := by kernel_rfl

/-- The tables that the rows list. -/
def laidT : List (String × DataW Unit) := [("unicode/utf8.acceptRanges", Rows.laid_unicode_utf8_acceptRanges), ("unicode/utf8.first", Rows.laid_unicode_utf8_first)]

theorem first_same : Rows.laid_unicode_utf8_first = Lib.firstData := by kernel_rfl
theorem accept_same : (Rows.laid_unicode_utf8_acceptRanges : DataW Unit) = Lib.acceptData := by kernel_rfl

theorem tabs_of_laid {W : World} (h : laidMetH Tryd.prog laidT W) : Tabs W := by
  rw [MakeChecks.laidMetH_plain _ _ _ (by kernel_rfl)] at h
  have h1 := Lib.laidMet.reads h (n := "unicode/utf8.first") (d := Rows.laid_unicode_utf8_first) (.tail _ (.head _))
  have h2 := Lib.laidMet.reads h (n := "unicode/utf8.acceptRanges") (d := Rows.laid_unicode_utf8_acceptRanges) (.head _)
  rw [first_same] at h1
  rw [accept_same] at h2
  exact utf8Tabs_of_readsT (U8Types.of196 Tryd.validLay) ⟨by kernel_rfl, by kernel_rfl, by kernel_rfl, by kernel_rfl, by kernel_rfl, by kernel_rfl, by kernel_rfl⟩ h1 h2

/-- The settled world, with the two tables in it. -/
noncomputable def laidWorld (os : Os) : World :=
  let w0 := World.holding Tryd.prog os ⟨#[], #[], []⟩
  let put (h : Array Obj) (g : Nat) (cs : Array Value) : Array Obj := h.modify g fun
    | .cells _ t frozen => .cells cs t frozen
    | o => o
  let h1 := put w0.heap 0 (Lib.firstTab.map fun z => Value.int .u8 z).toArray
  let h2 := put h1 1 ((List.range 16).flatMap fun i => [Value.int .u8 (Lib.accLo i), Value.int .u8 (Lib.accHi i)]).toArray
  { w0 with heap := h2 }

theorem door_met (os : Os) (args : Array Value) : laidMetH Tryd.prog laidT ((laidWorld os).forCall (fun _ _ => 0) ⟨#[], args, []⟩).memory := by
  rw [MakeChecks.laidMetH_plain _ _ _ (by kernel_rfl)]
  exact laidMet_of_run' 8 (by kernel_rfl) (by kernel_rfl)

end Go.Proofs.YtcoaabgaolblfaaDoor

/- Rows of ints that came in, as a row of the claim reads them. -/
namespace Go.Proofs.YtcoaabgaolblfaaDoor
open Go.ChangeShapes Go.WideShapes Go.ChangeAt Go.RowKit Go.Deep Go.Maps

theorem spot_none {w : World} {a : Addr} {v : Value} (h : w.cell? (a.add 0) = some v) : ∃ g off, a = ⟨g, off, none⟩ ∧ g < w.heap.size := by
  obtain ⟨b, off, spot⟩ := a
  have hspot : spot = none := by simpa [Addr.add] using World.cell?_spot h
  subst hspot
  refine ⟨b, off, rfl, ?_⟩
  rw [Addr.add_lit] at h
  exact World.block_lt_of_cell? w _ h

theorem weight_head {H : Type} {P : Program} {t e : TypeId} {d : DataW H} {elems spare : List (DataW H)} (hd : d = .slice elems spare) (hu : P.underlying t = some (.slice e)) : (elems.length + spare.length) * P.bytesOf e ∈ d.weights P t := by
  subst hd
  simp [DataW.weights, hu]

theorem open_nums {H : Type} {enc : TypeId × Value → H} {W : World} {base fuel : Nat} {held : Bool} {cs : List Value} {x : DataW H × List MemPlace}
    (h : DataW.trod enc Tryd.prog W base (fun _ => true) held fuel 24 cs = some x) : ∃ v xs, cs = [v] ∧ Is W v xs ∧ ∀ R, (∀ n ∈ x.1.weights Tryd.prog 24, n ≤ R) → xs.length * 8 ≤ R := by
  rcases open_ints Tryd.underlying24 Tryd.underlying3 (by kernel_rfl) h with ⟨rfl, _⟩ | ⟨a, len, cap, zs, rfl, _, hl, hm, hz, hx, hcell, hwz⟩
  · exact ⟨_, [], rfl, Row.nil (by simp [maxLen]), by simp⟩
  · simp only [if_true] at hz
    have hlen : (zs.take len).length = len := by simp; omega
    have hfit : ∀ R, (∀ n ∈ x.1.weights Tryd.prog 24, n ≤ R) → len * 8 ≤ R := by
      intro R hR
      have := hR _ (weight_head (by rw [hx]) Tryd.underlying24)
      rw [show Tryd.prog.bytesOf 3 = 8 by kernel_rfl] at this
      simp only [lits, List.length_map, List.length_take, List.length_drop] at this
      omega
    refine ⟨_, zs.take len, rfl, ⟨some a, cap, by rw [hlen], by omega, hm, fun h0 => ?_⟩, by rw [hlen]; exact hfit⟩
    rw [hlen] at h0
    obtain ⟨g, off, rfl, hg⟩ := spot_none (hcell 0 (by omega))
    refine ⟨g, off, rfl, hg, fun k y hk => ?_⟩
    have hkl : k < len := by have := (List.getElem?_eq_some_iff.1 hk).1; omega
    have h1 := hcell k (by omega)
    rw [Addr.add_lit] at h1
    have hkz : k < zs.length := by omega
    have h2 := bounds_i64 (hwz zs[k] (List.getElem_mem hkz))
    rw [List.getElem?_take_of_lt hkl, List.getElem?_eq_getElem hkz, Option.some.injEq] at hk
    rw [List.getD_eq_getElem?_getD, List.getElem?_eq_getElem hkz, Option.getD_some] at h1
    subst hk
    rw [Nat.mul_one]
    exact ⟨by omega, by omega, h1⟩

end Go.Proofs.YtcoaabgaolblfaaDoor

/- Signatures, binds and lists of rows that came in, as a row of the claim reads them. -/
namespace Go.Proofs.YtcoaabgaolblfaaDoor
open Go.ChangeShapes Go.WideShapes Go.ChangeAt Go.RowKit Go.Deep Go.Maps

theorem weight_all {H : Type} {P : Program} {e : TypeId} {d : DataW H} {n : Nat} : ∀ {l : List (DataW H)}, d ∈ l → n ∈ d.weights P e → n ∈ DataW.weightsAll P e l
  | [], h, _ => by cases h
  | x :: r, h, hn => by
    unfold DataW.weightsAll
    rcases List.mem_cons.1 h with rfl | h
    · exact List.mem_append_left _ hn
    · exact List.mem_append_right _ (weight_all h hn)

theorem weight_elem {H : Type} {P : Program} {t e : TypeId} {d y : DataW H} {n : Nat} {elems spare : List (DataW H)} (hd : d = .slice elems spare) (hu : P.underlying t = some (.slice e)) (hy : y ∈ elems) (hn : n ∈ y.weights P e) : n ∈ d.weights P t := by
  subst hd
  have := weight_all hy hn
  simp [DataW.weights, hu, this]

theorem weight_agg {H : Type} {P : Program} {t u : TypeId} {fs : Array Field} {parts : List (DataW H)} {y : DataW H} {j n : Nat} (hu : P.underlying t = some (.struct fs)) (hj : (fs.toList.map (·.type))[j]? = some u) (hp : parts[j]? = some y) (hn : n ∈ y.weights P u) : n ∈ (DataW.agg parts).weights P t := by
  have := DataW.weights_mem_each hj hp n hn
  simp [DataW.weights, hu, this]

theorem open_syms {H : Type} {enc : TypeId × Value → H} {W : World} {base fuel : Nat} {held : Bool} {cs : List Value} {x : DataW H × List MemPlace}
    (h : DataW.trod enc Tryd.prog W base (fun _ => true) held fuel 22 cs = some x) : ∃ v p, cs = [v] ∧ Sg W v p := by
  rcases open_slice_pairs Tryd.underlying22 Tryd.underlying67 (by kernel_rfl) rfl rfl (by kernel_rfl) (by kernel_rfl) h with ⟨rfl, _⟩ | ⟨a, len, cap, m, n, V0, V1, D0, D1, P0, P1, rfl, _, hl, hm, hmm, hx, hall⟩
  · exact ⟨_, [], rfl, Row.nil (by simp [maxLen])⟩
  · simp only [if_true] at hmm
    have each : ∀ i, i < m → ∃ q : Sy, V0 i = .string q.1 ∧ V1 i = .int .i64 q.2 ∧ q.1.size ≤ maxLen ∧ -9223372036854775808 ≤ q.2 ∧ q.2 ≤ 9223372036854775807 := by
      intro i hi
      obtain ⟨_, _, t0, t1⟩ := hall i hi
      obtain ⟨s, e0, _, hs⟩ := DataW.trod_string Tryd.underlying9 t0
      obtain ⟨z, e1, _, hz⟩ := DataW.trod_int Tryd.underlying3 t1
      have hb := bounds_i64 hz
      simp only [List.cons.injEq, and_true] at e0 e1
      exact ⟨(s, z), e0, e1, hs, by omega, by omega⟩
    obtain ⟨q, hq⟩ := choose_lt each
    have hlen : ((List.range len).map q).length = len := by simp
    refine ⟨_, (List.range len).map q, rfl, some a, cap, by rw [hlen], by omega, hm, fun h0 => ?_⟩
    rw [hlen] at h0
    obtain ⟨g, off, rfl, hg⟩ := spot_none (hall 0 (by omega)).1
    refine ⟨g, off, rfl, hg, fun k y hk => ?_⟩
    have hkl : k < len := by have := (List.getElem?_eq_some_iff.1 hk).1; omega
    obtain ⟨h0, h1, _⟩ := hall k (by omega)
    rw [Addr.add_lit] at h0 h1
    obtain ⟨e0, e1, e2, e3, e4⟩ := hq k (by omega)
    simp only [List.getElem?_map, List.getElem?_range hkl, Option.map_some, Option.some.injEq] at hk
    subst hk
    exact ⟨e3, e4, e2, by rw [h0, e0], by rw [Nat.add_assoc, h1, e1]⟩

theorem bulk_one {H : Type} (d : DataW H) : 1 ≤ Rows.uptoBulk d := by
  cases d with
  | lit l => cases l <;> simp [Rows.uptoBulk]
  | nil => simp [Rows.uptoBulk]
  | ptr d => simp [Rows.uptoBulk]
  | slice elems spare => simp [Rows.uptoBulk]
  | agg parts => simp [Rows.uptoBulk]
  | iface t d => simp [Rows.uptoBulk]
  | map entries => simp [Rows.uptoBulk]
  | held h => simp [Rows.uptoBulk]

theorem bulk_len {H : Type} : ∀ l : List (DataW H), l.length ≤ Rows.uptoBulkAll l
  | [] => by simp [Rows.uptoBulkAll]
  | x :: r => by
    have := bulk_one x
    have := bulk_len r
    simp only [Rows.uptoBulkAll, List.length_cons]
    omega

theorem bulk_elems {H : Type} {d : DataW H} {elems spare : List (DataW H)} (h : d = .slice elems spare) : Rows.uptoBulkAll elems ≤ Rows.uptoBulk d := by
  subst h
  simp only [Rows.uptoBulk]
  omega

theorem bulk_nums {H : Type} {enc : TypeId × Value → H} {W : World} {base fuel : Nat} {held : Bool} {v : Value} {xs : List Int} {x : DataW H × List MemPlace}
    (h : DataW.trod enc Tryd.prog W base (fun _ => true) held fuel 24 [v] = some x) (hi : Is W v xs) : xs.length ≤ Rows.uptoBulk x.1 := by
  rcases open_ints Tryd.underlying24 Tryd.underlying3 (by kernel_rfl) h with ⟨e, _⟩ | ⟨a, len, cap, zs, e, _, hl, hm, hz, hx, _⟩
  · simp only [List.cons.injEq, and_true] at e
    subst e
    have := Row.len hi
    omega
  · simp only [List.cons.injEq, and_true] at e
    subst e
    simp only [if_true] at hz
    have h1 := Row.len hi
    have h2 := bulk_elems (d := x.1) (by rw [hx])
    have h3 := bulk_len (lits (H := H) .i64 (zs.take len))
    simp only [lits, List.length_map, List.length_take] at h3
    have h4 : Rows.uptoBulkAll (lits (H := H) .i64 (zs.take len)) ≤ Rows.uptoBulk x.1 := h2
    simp only [lits] at h4
    omega

theorem sum_bulk {H : Type} (q : Nat → List Int) (D : Nat → DataW H) : ∀ L : List Nat, (∀ i ∈ L, (q i).length ≤ Rows.uptoBulk (D i)) → ((L.map q).map List.length).sum ≤ Rows.uptoBulkAll (L.map D)
  | [], _ => by simp [Rows.uptoBulkAll]
  | i :: L, h => by
    have h1 := h i (.head _)
    have h2 := sum_bulk q D L (fun j hj => h j (.tail _ hj))
    simp only [List.map_cons, List.sum_cons, Rows.uptoBulkAll]
    omega

theorem open_rows {H : Type} {enc : TypeId × Value → H} {W : World} {base fuel : Nat} {held : Bool} {cs : List Value} {x : DataW H × List MemPlace}
    (h : DataW.trod enc Tryd.prog W base (fun _ => true) held fuel 61 cs = some x) (hR : ∀ n ∈ x.1.weights Tryd.prog 61, n ≤ 140737488351232) : ∃ v l, cs = [v] ∧ Rs W v l ∧ l.length * 24 ≤ 140737488351232 ∧ (l.map List.length).sum ≤ Rows.uptoBulk x.1 ∧ l.length ≤ Rows.uptoBulk x.1 := by
  rcases open_slice1 Tryd.underlying61 (by kernel_rfl) h with ⟨rfl, _⟩ | ⟨a, len, cap, m, n, V, D, Pl, rfl, _, hl, hm, hmm, hx, hall⟩
  · exact ⟨_, [], rfl, Row.nil (by simp [maxLen]), by simp, by simp, by simp⟩
  · simp only [if_true] at hmm
    have each : ∀ i, i < m → ∃ q : List Int, Is W (V i) q ∧ (∀ R, (∀ n ∈ (D i).weights Tryd.prog 24, n ≤ R) → q.length * 8 ≤ R) ∧ q.length ≤ Rows.uptoBulk (D i) := by
      intro i hi
      obtain ⟨v0, c, e0, hc, hf⟩ := open_nums (hall i hi).2
      simp only [List.cons.injEq, and_true] at e0
      subst e0
      exact ⟨c, hc, hf, bulk_nums (hall i hi).2 hc⟩
    obtain ⟨q, hq⟩ := choose_lt each
    have hlen : ((List.range len).map q).length = len := by simp
    have hx1 : x.1 = .slice ((List.range len).map D) ((List.range (m - len)).map fun j => D (len + j)) := by rw [hx]
    have hfit : len * 24 ≤ 140737488351232 := by
      have := hR _ (weight_head hx1 Tryd.underlying61)
      rw [show Tryd.prog.bytesOf 24 = 24 by kernel_rfl] at this
      simp only [List.length_map, List.length_range] at this
      omega
    have hb1 := bulk_elems hx1
    have hb2 := sum_bulk q D (List.range len) (fun i hi => (hq i (by have := List.mem_range.1 hi; omega)).2.2)
    have hb3 := bulk_len ((List.range len).map D)
    simp only [List.length_map, List.length_range] at hb3
    refine ⟨_, (List.range len).map q, rfl, ⟨some a, cap, by rw [hlen], by omega, hm, fun h0 => ?_⟩, by rw [hlen]; exact hfit, by omega, by rw [hlen]; omega⟩
    rw [hlen] at h0
    obtain ⟨g, off, rfl, hg⟩ := spot_none (hall 0 (by omega)).1
    refine ⟨g, off, rfl, hg, fun k y hk => ?_⟩
    have hkl : k < len := by have := (List.getElem?_eq_some_iff.1 hk).1; omega
    have h0 := (hall k (by omega)).1
    rw [Addr.add_lit] at h0
    simp only [List.getElem?_map, List.getElem?_range hkl, Option.map_some, Option.some.injEq] at hk
    subst hk
    rw [Nat.mul_one]
    exact ⟨(hq k (by omega)).2.1 _ fun n hn => hR n (weight_elem hx1 Tryd.underlying61 (List.mem_map.2 ⟨k, List.mem_range.2 hkl, rfl⟩) hn), V k, h0, (hq k (by omega)).1⟩

end Go.Proofs.YtcoaabgaolblfaaDoor

/- Pairs of rows, pairs of numbers and rules that came in, as a row of the claim reads them. -/
namespace Go.Proofs.YtcoaabgaolblfaaDoor
open Go.ChangeShapes Go.WideShapes Go.ChangeAt Go.RowKit Go.Deep Go.Maps

theorem okWide_arr {P : Program} {w : World} {r : Reach} {base : Nat} {t e : TypeId} {v : Value} {n : Nat} (ht : P.underlying t = some (.array n e)) (h : Value.okWide P w r base t v) : ∃ cs, v = .agg cs ∧ cs.size = P.cellsOf t := by
  simp only [Value.okWide, ht] at h
  obtain ⟨cs, h1, h2, _⟩ := h
  exact ⟨cs, h1, h2⟩

theorem weight_arr {H : Type} {P : Program} {t e : TypeId} {parts : List (DataW H)} {y : DataW H} {n k : Nat} (hu : P.underlying t = some (.array k e)) (hy : y ∈ parts) (hn : n ∈ y.weights P e) : n ∈ (DataW.agg parts).weights P t := by
  have := weight_all hy hn
  simp [DataW.weights, hu, this]

theorem open_two {H : Type} {enc : TypeId × Value → H} {W : World} {base fuel : Nat} {held : Bool} {cs : List Value} {x : DataW H × List MemPlace}
    (h : DataW.trod enc Tryd.prog W base (fun _ => true) held fuel 25 cs = some x) (hR : ∀ n ∈ x.1.weights Tryd.prog 25, n ≤ 140737488351232) :
    ∃ v0 v1 p q, cs = [v0, v1] ∧ Is W v0 p ∧ Is W v1 q ∧ p.length * 8 ≤ 140737488351232 ∧ q.length * 8 ≤ 140737488351232 ∧ p.length + q.length ≤ Rows.uptoBulk x.1 := by
  obtain ⟨xs, m, _, hx, hl, hlen, hf⟩ := DataW.trod_array Tryd.underlying25 h
  rw [show Tryd.prog.cellsOf 25 = 2 by kernel_rfl] at hl
  rw [show Tryd.prog.cellsOf 24 = 1 by kernel_rfl] at hf
  match cs, hl, xs, hlen with
  | [v0, v1], _, [y0, y1], _ =>
    have h0 := hf 0 (by decide)
    have h1 := hf 1 (by decide)
    simp only [Nat.zero_mul, Nat.one_mul, List.drop_zero, List.take_succ_cons, List.take_zero, List.drop_succ_cons, List.getElem?_cons_zero, List.getElem?_cons_succ] at h0 h1
    obtain ⟨u0, p, e0, hp, fp⟩ := open_nums h0
    obtain ⟨u1, q, e1, hq, fq⟩ := open_nums h1
    simp only [List.cons.injEq, and_true] at e0 e1
    subst e0
    subst e1
    have hx1 : x.1 = .agg [y0.1, y1.1] := by rw [hx]; rfl
    have b0 := bulk_nums h0 hp
    have b1 := bulk_nums h1 hq
    refine ⟨v0, v1, p, q, rfl, hp, hq, fp _ fun n hn => hR n ?_, fq _ fun n hn => hR n ?_, ?_⟩
    · rw [hx1]
      exact weight_arr Tryd.underlying25 (.head _) hn
    · rw [hx1]
      exact weight_arr Tryd.underlying25 (.tail _ (.head _)) hn
    · rw [hx1]
      simp only [Rows.uptoBulk, Rows.uptoBulkAll]
      omega

theorem open_ints2 {H : Type} {enc : TypeId × Value → H} {W : World} {base fuel : Nat} {held : Bool} {cs : List Value} {x : DataW H × List MemPlace}
    (h : DataW.trod enc Tryd.prog W base (fun _ => true) held fuel 43 cs = some x) :
    ∃ a b : Int, cs = [.int .i64 a, .int .i64 b] ∧ (-9223372036854775808 ≤ a ∧ a ≤ 9223372036854775807) ∧ (-9223372036854775808 ≤ b ∧ b ≤ 9223372036854775807) := by
  obtain ⟨xs, m, _, hx, hl, hlen, hf⟩ := DataW.trod_array Tryd.underlying43 h
  rw [show Tryd.prog.cellsOf 43 = 2 by kernel_rfl] at hl
  rw [show Tryd.prog.cellsOf 3 = 1 by kernel_rfl] at hf
  match cs, hl, xs, hlen with
  | [v0, v1], _, [y0, y1], _ =>
    have h0 := hf 0 (by decide)
    have h1 := hf 1 (by decide)
    simp only [Nat.zero_mul, Nat.one_mul, List.drop_zero, List.take_succ_cons, List.take_zero, List.drop_succ_cons, List.getElem?_cons_zero, List.getElem?_cons_succ] at h0 h1
    obtain ⟨z0, e0, _, k0⟩ := DataW.trod_int Tryd.underlying3 h0
    obtain ⟨z1, e1, _, k1⟩ := DataW.trod_int Tryd.underlying3 h1
    simp only [List.cons.injEq, and_true] at e0 e1
    subst e0
    subst e1
    have b0 := bounds_i64 k0
    have b1 := bounds_i64 k1
    exact ⟨z0, z1, rfl, ⟨by omega, by omega⟩, ⟨by omega, by omega⟩⟩

set_option maxRecDepth 100000 in
theorem open_rule {H : Type} {enc : TypeId × Value → H} {W : World} {base fuel : Nat} {held : Bool} {cs : List Value} {x : DataW H × List MemPlace}
    (h : DataW.trod enc Tryd.prog W base (fun _ => true) held fuel 35 cs = some x) (hR : ∀ n ∈ x.1.weights Tryd.prog 35, n ≤ 140737488351232) :
    ∃ v0 v1 p q, cs = [v0, v1] ∧ Is W v0 p ∧ Is W v1 q ∧ p.length * 8 ≤ 140737488351232 ∧ q.length * 8 ≤ 140737488351232 ∧ p.length + q.length ≤ Rows.uptoBulk x.1 := by
  obtain ⟨y0, y1, m, hx, hl, h0, h1⟩ := trod_struct2 Tryd.underlying35 h
  rw [show Tryd.prog.cellsOf 35 = 2 by kernel_rfl] at hl
  match cs, hl with
  | [v0, v1], _ =>
    have h0' : DataW.trod enc Tryd.prog W base (fun _ => true) held m 24 [v0] = some y0 := h0
    have h1' : DataW.trod enc Tryd.prog W base (fun _ => true) held m 24 [v1] = some y1 := h1
    obtain ⟨u0, p, e0, hp, fp⟩ := open_nums h0'
    obtain ⟨u1, q, e1, hq, fq⟩ := open_nums h1'
    simp only [List.cons.injEq, and_true] at e0 e1
    subst e0
    subst e1
    have hx1 : x.1 = .agg [y0.1, y1.1] := by rw [hx]
    have b0 := bulk_nums h0' hp
    have b1 := bulk_nums h1' hq
    refine ⟨v0, v1, p, q, rfl, hp, hq, fp _ fun n hn => hR n ?_, fq _ fun n hn => hR n ?_, ?_⟩
    · rw [hx1]
      exact weight_agg Tryd.underlying35 (j := 0) rfl rfl hn
    · rw [hx1]
      exact weight_agg Tryd.underlying35 (j := 1) rfl rfl hn
    · rw [hx1]
      simp only [Rows.uptoBulk, Rows.uptoBulkAll]
      omega

end Go.Proofs.YtcoaabgaolblfaaDoor

/- Pairs and what holds them, three rows, terms with what stands round them, that came in, as a row of the claim reads them. -/
namespace Go.Proofs.YtcoaabgaolblfaaDoor
open Go.ChangeShapes Go.WideShapes Go.ChangeAt Go.RowKit Go.Deep Go.Maps

theorem open_pairsD {H : Type} {enc : TypeId × Value → H} {W : World} {base fuel : Nat} {held : Bool} {cs : List Value} {x : DataW H × List MemPlace}
    (h : DataW.trod enc Tryd.prog W base (fun _ => true) held fuel 23 cs = some x) (hR : ∀ n ∈ x.1.weights Tryd.prog 23, n ≤ 140737488351232) : ∃ v p, cs = [v] ∧ Prs W v p ∧ p.length * 16 ≤ 140737488351232 ∧ p.length ≤ Rows.uptoBulk x.1 := by
  rcases open_slice Tryd.underlying23 h with ⟨rfl, _⟩ | ⟨a, len, cap, m, n, D, Pl, rfl, hb, hl, hm, hmm, rfl, hx⟩
  · exact ⟨_, [], rfl, Row.nil (by simp [maxLen]), by simp, Nat.zero_le _⟩
  · simp only [if_true] at hmm
    have each : ∀ i, i < m → ∃ q : Int × Int, W.cell? (a.add (i * 2)) = some (.int .i64 q.1) ∧ W.cell? (a.add (i * 2 + 1)) = some (.int .i64 q.2) ∧ (-9223372036854775808 ≤ q.1 ∧ q.1 ≤ 9223372036854775807) ∧ (-9223372036854775808 ≤ q.2 ∧ q.2 ≤ 9223372036854775807) := by
      intro i hi
      obtain ⟨cs', h1, h2⟩ := hx i hi
      rw [show Tryd.prog.cellsOf 43 = 2 by kernel_rfl] at h1
      obtain ⟨_, hlen, hcell⟩ := World.cells?_some h1
      obtain ⟨p, q, rfl, hp, hq⟩ := open_ints2 h2
      have e0 := hcell 0 (by omega)
      have e1 := hcell 1 (by omega)
      rw [add_add] at e0 e1
      exact ⟨(p, q), by simpa using e0, by simpa using e1, hp, hq⟩
    obtain ⟨q, hq⟩ := choose_lt each
    have hlen : ((List.range len).map q).length = len := by simp
    refine ⟨_, (List.range len).map q, rfl, ⟨some a, cap, by rw [hlen], by omega, hm, fun h0 => ?_⟩, ?_, ?_⟩
    · rw [hlen] at h0
      obtain ⟨g, off, rfl, hg⟩ := spot_none (hq 0 (by omega)).1
      refine ⟨g, off, rfl, hg, fun k y hk => ?_⟩
      have hkl : k < len := by have := (List.getElem?_eq_some_iff.1 hk).1; omega
      obtain ⟨h0, h1, h2, h3⟩ := hq k (by omega)
      rw [Addr.add_lit] at h0 h1
      simp only [List.getElem?_map, List.getElem?_range hkl, Option.map_some, Option.some.injEq] at hk
      subst hk
      exact ⟨h2, h3, h0, h1⟩
    · have := hR _ (weight_head rfl Tryd.underlying23)
      rw [show Tryd.prog.bytesOf 43 = 16 by kernel_rfl] at this
      simp only [List.length_map, List.length_range] at this
      rw [hlen]
      omega
    · rw [hlen]
      have h1 := bulk_len ((List.range len).map D)
      simp only [List.length_map, List.length_range] at h1
      exact Nat.le_trans h1 (bulk_elems rfl)

end Go.Proofs.YtcoaabgaolblfaaDoor
