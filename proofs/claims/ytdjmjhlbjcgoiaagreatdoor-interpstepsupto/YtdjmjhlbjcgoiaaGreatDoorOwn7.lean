/- Texts of the proof, one behind the other. -/
import Derived.Test.YtdjmjhlbjcgoiaaGreatDoorOwn1
import Derived.Laws.Rows
import Derived.Laws.ResultCell
import Derived.Test.YtdjmjhlbjcgoiaaGreatDoorOwn2
import Derived.Test.YtdjmjhlbjcgoiaaGreatDoorOwn6
import Derived.Maps.Own
import Derived.Maps.OwnOps
import Derived.Maps.OwnSet
import Derived.Maps.Range
import Derived.Maps.RangeWalk
import Derived.DeepKeys4
import Derived.Lib.Bytealg
import Derived.Laws.Externs
import Derived.Shelf.SlSortCmp.NoneTotal
set_option maxRecDepth 1000000
set_option maxHeartbeats 6400000
namespace Go.Proofs.YtdjmjhlbjcgoiaaGreatDoor
open Go.RowKit
def arr (ks : List Nat) : Array Value := (ks.map fun (x : Nat) => Value.int .u8 (x : Int)).toArray
theorem xAN (ks : List Nat) : (arr ks).size = ks.length := by simp [arr]
theorem arr_get {ks : List Nat} {k x : Nat} (h : ks[k]? = some x) : (arr ks)[k]? = some (.int .u8 (x : Int)) := by simp [arr, h]
theorem arr_one (ks : List Nat) : (arr ks).all (·.oneCell') = true := by
 rw [Array.all_eq_true_iff_forall_mem]
 intro v hv
 simp only [arr, List.mem_toArray, yL] at hv
 obtain ⟨x, _, rfl⟩ := hv
 rfl
def zeros : List Nat := List.replicate 512 0
theorem xFE : Tryz.zeroCells160 = arr zeros := by kernel_rfl
theorem xEY : zeros.length = 512 := yM
def Ar (w : World) (g : Nat) (ks : List Nat) : Prop := w.heap[g]? = some (.cells (arr ks) 160 (0, 0))
theorem Ar.lt {w : World} {g : Nat} {ks : List Nat} (h : Ar w g ks) : g < w.heap.size := (zL.1 h).1
theorem Ar.cell {w : World} {g : Nat} {ks : List Nat} (h : Ar w g ks) {k x : Nat} (hk : ks[k]? = some x) : w.cell? ⟨g, k, none⟩ = some (.int .u8 (x : Int)) := by
 rw [cell_of_row w g k _ _ _ h, arr_get hk]
theorem Ar.frozen {w : World} {g : Nat} {ks : List Nat} (h : Ar w g ks) (k : Nat) : w.frozen? ⟨g, k, none⟩ = false := by
 unfold Ar at h
 simp [World.frozen?, h]
theorem Ar.set {w : World} {g : Nat} {ks : List Nat} (h : Ar w g ks) (k x : Nat) : Ar (w.setCell ⟨g, k, none⟩ (.int .u8 (x : Int))) g (ks.set k x) := by
 unfold Ar at h ⊢
 rw [setCell_eq_setRow w g k _ _ _ _ h, setRow_heap w g _ _ _ _ h]
 congr 2
 simp [arr, List.map_set]
theorem Ar.below {w w' : World} {B g : Nat} {ks : List Nat} (h : Ar w g ks) (hb : Below B w w') (hg : g < B) : Ar w' g ks := (hb.block g hg).trans h
theorem Ar.later {w w' : World} {g : Nat} {ks : List Nat} (h : Ar w g ks) (hb : Below w.heap.size w w') : Ar w' g ks := h.below hb h.lt
theorem Ar.setOther {w : World} {g g' k : Nat} {ks : List Nat} {v : Value} (h : Ar w g ks) (hne : g ≠ g') : Ar (w.setCell ⟨g', k, none⟩ v) g ks := (Below.heap_setCell w ⟨g', k, none⟩ v g hne).trans h
theorem Ar.new (w : World) (ks : List Nat) : Ar (w.alloc (.cells (arr ks) 160)) w.heap.size ks := yU w _
def keyX (es : List Int) : List Nat := es.map Int.toNat ++ List.replicate (512 - es.length) 0
def keyTo (es : List Int) (k : Nat) : List Nat := (es.take k).map Int.toNat ++ List.replicate (512 - k) 0
theorem keyTo_full (es : List Int) : keyTo es es.length = keyX es := by simp [keyTo, keyX]
theorem keyTo_get {es : List Int} {k : Nat} (h : k < es.length) (h' : k < 512) : (keyTo es k)[k]? = some 0 := by
 unfold keyTo
 have hl : ((es.take k).map Int.toNat).length = k := by simp; omega
 rw [zM (by omega), hl, Nat.sub_self, List.getElem?_replicate, if_pos (by omega)]
theorem keyTo_step {es : List Int} {k : Nat} {x : Int} (h : es[k]? = some x) (h' : k < 512) : (keyTo es k).set k x.toNat = keyTo es (k + 1) := by
 have hk := (zB.1 h).1
 unfold keyTo
 rw [show 512 - k = (512 - (k + 1)) + 1 by omega, List.replicate_succ, set_mid _ _ _ _ _ (by simp; omega), xAY h]
 simp
theorem xBB {es : List Int} (h : es.length ≤ 512) : (keyX es).length = 512 := by simp [keyX]; omega
theorem xAZ : (Tryz.prog.info? 160).map (·.size) = some 512 := by kernel_rfl
theorem xAU : Tryz.prog.underlying 160 = some (.array 512 5) := by kernel_rfl
theorem Ar.put {w w0 : World} {g B : Nat} {ks : List Nat} (h : Ar w g ks) (hb : Below B w0 w) (hB : B ≤ g) {k z : Nat} {V : Int} (hV : V = (z : Int)) {ys : List Nat} (hys : ks.set k z = ys) :
  Ar (w.setCell ⟨g, k, none⟩ (.int .u8 V)) g ys ∧ Below B w0 (w.setCell ⟨g, k, none⟩ (.int .u8 V)) := by
 subst hV; subst hys
 exact ⟨h.set k z, hb.setCell (p := ⟨g, k, none⟩) hB _⟩
theorem xBM {B : Nat} {a w : World} (h : Below B a w) {g : Nat} (hg : B ≤ g) {cs : Array Value} : Below B a (w.setRow g cs) :=
 h.trans ⟨rfl, rfl, rfl, by simp [World.setRow], fun k hk => setRow_other w g k _ (by omega)⟩
theorem xFQ {fn : Func} {p u : Tmp} (h : fn.results = #[.cell p 160, .tmp u]) (tmps : Array Value) (w : World) (g : Nat) (t : TypeId) (cs : Array Value) (fr : Nat × Nat)
  (hp : tmps.getD p undef = .pointer (some ⟨g, 0, none⟩)) (hg : w.heap[g]? = some (.cells cs t fr)) (hi : cs.size = 512) :
  (results fn tmps).run Tryz.prog w = .ok (.tuple #[.agg cs, tmps.getD u undef]) w := by
 rw [results_cell_tmp h, hp]
 simp only [asAddr, Sem.run_pure, Result.andThen_ok, run_loadVar_row w g t 160 cs fr _ hg xAU rfl (by rw [xAZ, hi])]
def Small (es : List Int) : Prop := es.length ≤ 512 ∧ ∀ (k : Nat) (x : Int), es[k]? = some x → 0 ≤ x ∧ x ≤ 64
theorem packed_any (v : Value) (es : List Int) (w : World) (h : Is w v es) (hs : Small es) :
  Calls Tryz.prog 115 #[v] w fun e w' => e = .returned (.agg (arr (keyX es))) ∧ Below w.heap.size w w' := by
 obtain ⟨ao, cap, rfl, hao, hca, q0⟩ := Row.flat h
 unfold maxLen at hca
 have h512 := hs.1
 have HS : Hid (Small es) := hs
 have HI : Hid (Is w (.slice ao es.length cap) es) := h
 clear h q0 hs
 go_enter Tryz.func115, Tryz.ntmps115
 go_wp2
 rw [xFE]
 go_loopw [8] (fun i wr => ∃ k : Nat, k ≤ es.length ∧ i = .int .i64 k ∧ Ar wr w.heap.size zeros ∧ Ar wr (w.heap.size + 1) (keyTo es k) ∧ Below w.heap.size w wr) (fun i _ => es.length - (intOf i).toNat)
 case atStart =>
  refine ⟨0, by omega, rfl, ?_, ?_, ?_⟩
  ·exact (Ar.new w zeros).later (zA _)
  ·have := Ar.new (w.alloc (.cells (arr zeros) 160)) zeros
   simpa [keyTo, zeros] using this
  exact zS (zA _) (zA _)
 case round =>
  obtain ⟨k, hk, rfl, hz, hy, hbl⟩ := hrel
  have HZ : Hid (Ar wr w.heap.size zeros) := hz
  have HY : Hid (Ar wr (w.heap.size + 1) (keyTo es k)) := hy
  clear hz hy
  by_cases hlt : k < es.length
  ·obtain ⟨g, off, x, rfl, hx1, hx2, hx3, hx4⟩ := (HI.out.kp (zK hbl)).at hlt
   have HX : Hid (es[k]? = some x) := hx1
   obtain ⟨hx5, hx6⟩ := HS.out.2 k x hx1
   have hcell := HY.out.cell (keyTo_get hlt (by omega))
   have hfr := HY.out.frozen k
   have hk512 : k < 512 := by omega
   clear hx1
   have hq := HY.out.put hbl (by omega) (k := k) (z := x.toNat) (V := x) (by omega) (keyTo_step HX.out hk512)
   have HP : Hid (Ar (wr.setCell ⟨w.heap.size + 1, k, none⟩ (.int .u8 x)) (w.heap.size + 1) (keyTo es (k + 1)) ∧ Below w.heap.size w (wr.setCell ⟨w.heap.size + 1, k, none⟩ (.int .u8 x))) := hq
   clear hq
   go_wp2
   go_roundw
   case rel => exact ⟨k + 1, by omega, by go_num, HZ.out.setOther (by omega), HP.out.1, HP.out.2⟩
   case measure => simp [intOf]; omega
  have hke : k = es.length := by omega
  subst hke
  have hy := HY.out
  rw [keyTo_full] at hy
  have HY2 : Hid (Ar wr (w.heap.size + 1) (keyX es)) := hy
  have hl2 := xBB h512
  clear hy HY
  go_wp2_with (first
   | (refine wpList_load_row rfl _ _ rfl (w.heap.size + 1) rfl _ _ _ _ HY2.out xAU rfl (by rw [xAZ, xAN, hl2]) ?_)
   | (refine wpList_store_row rfl _ _ _ rfl w.heap.size (arr (keyX es)) rfl rfl _ _ HZ.out (by rw [xAZ, xAN, hl2]) (by rw [xAN, xAN, xEY, hl2]) (arr_one _) ?_))
  refine bodyPost_ret (results_cell_row rfl _ _ w.heap.size _ (arr (keyX es)) (0, 0) _ rfl (setRow_heap wr _ _ _ _ _ HZ.out) xAU rfl (by rw [xAZ, xAN, hl2])) rfl ?_
  exact ⟨rfl, xBM hbl (Nat.le_refl _)⟩
def addK (a b : List Nat) : List Nat := List.zipWith (· + ·) a b
def addTo (ks : List Nat) (es : List Int) (k : Nat) : List Nat := addK (ks.take k) ((es.take k).map Int.toNat) ++ ks.drop k
theorem addTo_get {ks : List Nat} {es : List Int} {k x : Nat} (hk : ks[k]? = some x) (h : k < es.length) : (addTo ks es k)[k]? = some x := by
 have h1 := (zB.1 hk).1
 have hl : (addK (ks.take k) ((es.take k).map Int.toNat)).length = k := by simp [addK]; omega
 unfold addTo
 rw [zM (by omega), hl, Nat.sub_self, List.getElem?_drop, Nat.add_zero, hk]
theorem addTo_step {ks : List Nat} {es : List Int} {k x : Nat} {y : Int} (hk : ks[k]? = some x) (h : es[k]? = some y) : (addTo ks es k).set k (x + y.toNat) = addTo ks es (k + 1) := by
 have h1 := (zB.1 hk).1
 have h2 := (zB.1 h).1
 have hl : (addK (ks.take k) ((es.take k).map Int.toNat)).length = k := by simp [addK]; omega
 unfold addTo
 rw [xAK hk, set_mid _ _ _ _ _ hl, xAY hk, xAY h]
 unfold addK
 rw [yI, List.zipWith_append (by simp; omega)]
 simp
theorem addK_zero (ks : List Nat) : ∀ n, n = ks.length → addK ks (List.replicate n 0) = ks := by
 intro n hn
 subst hn
 induction ks with
 | nil => rfl
 | cons a r ih => simp only [zG, List.replicate_succ, addK, List.zipWith_cons_cons, Nat.add_zero]; congr 1
theorem addTo_full {ks : List Nat} {es : List Int} (hk : ks.length = 512) (h : es.length ≤ 512) : addTo ks es es.length = addK ks (keyX es) := by
 unfold addTo keyX
 conv => rhs; rw [← zQ es.length ks]
 unfold addK
 rw [List.zipWith_append (by simp; omega), zO (Nat.le_refl es.length)]
 congr 1
 exact (addK_zero _ _ (by simp; omega)).symm
def raisedE (ks : List Nat) (es : List Int) : Int := if (addK ks (keyX es)).all (fun n => decide (n ≤ 64)) then 0 else 2
def raisedK (ks : List Nat) (es : List Int) : List Nat := if (addK ks (keyX es)).all (fun n => decide (n ≤ 64)) then addK ks (keyX es) else zeros
theorem xFN {a b : List Nat} {k x y : Nat} (h : a[k]? = some x) (h' : b[k]? = some y) : (addK a b)[k]? = some (x + y) := by
 unfold addK; rw [List.getElem?_zipWith, h, h']
theorem keyX_get {es : List Int} {k : Nat} {y : Int} (h : es[k]? = some y) : (keyX es)[k]? = some y.toNat := by
 have h2 := (zB.1 h).1
 unfold keyX
 rw [zN (by simpa using h2), zU, h]; rfl
theorem keyX_high {es : List Int} {k : Nat} (h : es.length ≤ k) (hk : k < 512) : (keyX es)[k]? = some 0 := by
 unfold keyX
 rw [zM (by simpa using h), List.getElem?_replicate, if_pos (by simp; omega)]
theorem raised_any (v : Value) (ks : List Nat) (es : List Int) (w : World) (h : Is w v es) (hs : Small es) (hk : ks.length = 512) (h64 : ∀ (j x : Nat), ks[j]? = some x → x ≤ 64) :
  Calls Tryz.prog 116 #[.agg (arr ks), v] w fun e w' => e = .returned (.tuple #[.agg (arr (raisedK ks es)), .int .i64 (raisedE ks es)]) ∧ Below w.heap.size w w' := by
 obtain ⟨ao, cap, rfl, hao, hca, q0⟩ := Row.flat h
 unfold maxLen at hca
 have h512 := hs.1
 have HS : Hid (Small es) := hs
 have HI : Hid (Is w (.slice ao es.length cap) es) := h
 have HK : Hid (ks.length = 512) := hk
 have H64 : Hid (∀ (j x : Nat), ks[j]? = some x → x ≤ 64) := h64
 clear h q0 hs h64 hk
 go_enter Tryz.func116, Tryz.ntmps116
 go_wp2
 rw [xFE]
 go_loopw [10] (fun i wr => ∃ k : Nat, k ≤ es.length ∧ i = .int .i64 k ∧ Ar wr w.heap.size (addTo ks es k) ∧ Ar wr (w.heap.size + 1) zeros ∧ (∀ (j x : Nat) (y : Int), j < k → ks[j]? = some x → es[j]? = some y → x + y.toNat ≤ 64) ∧ Below w.heap.size w wr) (fun i _ => es.length - (intOf i).toNat)
 case atStart =>
  refine ⟨0, by omega, rfl, ?_, ?_, fun j x y hj => absurd hj (by omega), ?_⟩
  ·exact (Ar.new w ks).later (zA _)
  ·have := Ar.new (w.alloc (.cells (arr ks) 160)) zeros
   simpa using this
  exact zS (zA _) (zA _)
 case round =>
  obtain ⟨k, hk, rfl, hy, hz, hp, hbl⟩ := hrel
  have HZ : Hid (Ar wr (w.heap.size + 1) zeros) := hz
  have HY : Hid (Ar wr w.heap.size (addTo ks es k)) := hy
  have HP : Hid (∀ (j x : Nat) (y : Int), j < k → ks[j]? = some x → es[j]? = some y → x + y.toNat ≤ 64) := hp
  clear hz hy hp
  by_cases hlt : k < es.length
  ·obtain ⟨g, off, y, rfl, hx1, hx2, hx3, hx4⟩ := (HI.out.kp (zK hbl)).at hlt
   have HX : Hid (es[k]? = some y) := hx1
   obtain ⟨hx5, hx6⟩ := HS.out.2 k y hx1
   obtain ⟨x, hx⟩ : ∃ x, ks[k]? = some x := xBL (by have := HK.out; omega)
   have hx64 := H64.out k x hx
   have HX2 : Hid (ks[k]? = some x) := hx
   have hcell := HY.out.cell (addTo_get hx hlt)
   have hfr := HY.out.frozen k
   have hk512 : k < 512 := by omega
   have hq := HY.out.put hbl (Nat.le_refl _) (k := k) (z := x + y.toNat) (V := (x : Int) + y) (by omega) (addTo_step HX2.out HX.out)
   have HQ : Hid (Ar (wr.setCell ⟨w.heap.size, k, none⟩ (.int .u8 ((x : Int) + y))) w.heap.size (addTo ks es (k + 1)) ∧ Below w.heap.size w (wr.setCell ⟨w.heap.size, k, none⟩ (.int .u8 ((x : Int) + y)))) := hq
   clear hx1 hx hq
   by_cases hgt : (64 : Int) < (x : Int) + y
   ·have HZ2 : Hid (Ar (wr.setCell ⟨w.heap.size, k, none⟩ (.int .u8 ((x : Int) + y))) (w.heap.size + 1) zeros) := HZ.out.setOther (by omega)
    have hsz : Tryz.zeroCells160.size = 512 := Tryz.zeroCells160_size
    have HF : Hid (raisedK ks es = zeros ∧ raisedE ks es = 2) := by
     have : (addK ks (keyX es)).all (fun n => decide (n ≤ 64)) = false := by
      rw [List.all_eq_false]
      exact ⟨_, zD (xFN HX2.out (keyX_get HX.out)), by simp; omega⟩
     exact ⟨by simp [raisedK, this], by simp [raisedE, this]⟩
    go_wp2_with (first
     | (refine wpList_store_row rfl _ _ _ rfl (w.heap.size + 1) Tryz.zeroCells160 rfl rfl _ _ HZ2.out (by rw [xAZ, hsz]) (by rw [xAN, xEY, hsz]) (by rw [xFE]; exact arr_one _) ?_))
    refine bodyPost_ret (xFQ rfl _ _ (w.heap.size + 1) _ Tryz.zeroCells160 (0, 0) rfl (setRow_heap _ _ _ _ _ _ HZ2.out) hsz) rfl ?_
    refine ⟨?_, xBM HQ.out.2 (by omega)⟩
    rw [HF.out.1, HF.out.2, xFE]
    rfl
   go_wp2
   go_roundw
   case rel =>
    refine ⟨k + 1, by omega, by go_num, HQ.out.1, HZ.out.setOther (by omega), fun j a b hj ha hb => ?_, HQ.out.2⟩
    by_cases hjk : j = k
    ·subst hjk
     rw [HX2.out] at ha; rw [HX.out] at hb; cases ha; cases hb; omega
    exact HP.out j a b (by omega) ha hb
   case measure => simp [intOf]; omega
  have hke : k = es.length := by omega
  subst hke
  have hy := HY.out
  rw [addTo_full HK.out h512] at hy
  have HY2 : Hid (Ar wr w.heap.size (addK ks (keyX es))) := hy
  have hl2 : (addK ks (keyX es)).length = 512 := by
   have h1 := HK.out
   have h2 := xBB h512
   simp [addK, h1, h2]
  have HF : Hid (raisedK ks es = addK ks (keyX es) ∧ raisedE ks es = 0) := by
   have : (addK ks (keyX es)).all (fun n => decide (n ≤ 64)) = true := by
    rw [List.all_eq_true]
    intro z hz
    obtain ⟨j, hj⟩ := zW.1 hz
    have hj5 : j < 512 := by have := (zB.1 hj).1; omega
    obtain ⟨x, hx⟩ : ∃ x, ks[j]? = some x := xBL (by have := HK.out; omega)
    by_cases hje : j < es.length
    ·obtain ⟨y, hy⟩ : ∃ y, es[j]? = some y := ⟨es[j], zC hje⟩
     rw [xFN hx (keyX_get hy)] at hj
     cases hj
     simpa using HP.out j x y hje hx hy
    rw [xFN hx (keyX_high (by omega) hj5)] at hj
    cases hj
    simpa using H64.out j x hx
   exact ⟨by simp [raisedK, this], by simp [raisedE, this]⟩
  clear hy HY
  go_wp2_with (first
   | (refine wpList_load_row rfl _ _ rfl w.heap.size rfl _ _ _ _ HY2.out xAU rfl (by rw [xAZ, xAN, hl2]) ?_)
   | (refine wpList_store_row rfl _ _ _ rfl (w.heap.size + 1) (arr (addK ks (keyX es))) rfl rfl _ _ HZ.out (by rw [xAZ, xAN, hl2]) (by rw [xAN, xAN, xEY, hl2]) (arr_one _) ?_))
  refine bodyPost_ret (xFQ rfl _ _ (w.heap.size + 1) _ (arr (addK ks (keyX es))) (0, 0) rfl (setRow_heap wr _ _ _ _ _ HZ.out) (by rw [xAN, hl2])) rfl ?_
  refine ⟨?_, xBM hbl (by omega)⟩
  rw [HF.out.1, HF.out.2]
  rfl
theorem made_zero (n : Nat) : (madeCells (Value.int .u32 0).cells (n * 1)).toList = (List.replicate n 0).map U := by
 have : (Value.int .u32 0).cells = #[Value.int .u32 0] := rfl
 rw [this, toList_madeCells_one]
 simp [U]
theorem Ow.made {w : World} {base n : Nat} {v : Value} (h : w.ownsRow base 38 1 v n (madeCells (Value.int .u32 0).cells (n * 1)).toList) : Ow w base v (List.replicate n 0) := by
 rw [made_zero] at h
 exact ⟨by intro x hx; have := (List.mem_replicate.1 hx).2; omega, by simpa using h⟩
theorem sum_leY (v u : Value) (xs ys : List Nat) (w : World) (h : Sl w v xs) (h' : Sl w u ys) (hle : ys.length ≤ xs.length) (h64 : xs.length ≤ 64) :
  Calls Tryz.prog 125 #[v, u] w fun e w' => ∃ v' zs, e = .returned v' ∧ Ow w' w.heap.size v' zs ∧ val zs = val xs + val ys ∧ Below w.heap.size w w' := by
 obtain ⟨ao, cap, rfl, hao, hca, hcl⟩ := h.flat
 obtain ⟨bo, cap', rfl, hbo, hcb, hcl'⟩ := h'.flat
 unfold maxLen at hca hcb
 obtain ⟨i0, hi, hz0, hz1, hz2⟩ := info_parts info_u32
 have HS : Hid (Sl w (.slice ao xs.length cap) xs) := h
 have HS' : Hid (Sl w (.slice bo ys.length cap') ys) := h'
 clear h h' hcl hcl'
 go_enter Tryz.func125, Tryz.ntmps125
 go_wp2_with (first
  | (at_make; refine wpList_make_full _ rfl _ _ 35 rfl w.heap.size 38 i0 (.int .u32 0) 1 xDT hi hz0 hz1 .i64 .i64 _ _ (xs.length + 1) rfl rfl (by omega) (by omega) (by rw [hz2]; omega) (by unfold maxLen; omega) (Nat.le_refl _) ?_; intro w0 hown0 hgrow0))
 have hb0 : Below w.heap.size w w0 := (Below.refl _ _).grown hgrow0 (Nat.le_refl _) (by intro k hk; cases hk)
 obtain ⟨w1, hrun, ho1, hg1⟩ := run_copy_own (Ow.made hown0) (by simp) (HS.out.later hb0) (by omega)
 have hb1 : Below w.heap.size w w1 := hb0.grown hg1 hb0.size (by intro k hk; simp at hk; omega)
 have HO : Hid (Ow w1 w.heap.size (.slice (some ⟨w.heap.size, 0, none⟩) (xs.length + 1) (xs.length + 1)) (xs ++ [0])) := by
  have := ho1
  rw [List.drop_replicate, show xs.length + 1 - xs.length = 1 by omega] at this
  exact this
 clear hown0 hgrow0 ho1 hg1 hb0
 rw [hrun]
 go_wp2
 clear hrun
 go_loopw [6, 24] (fun c i wr => ∃ (k C : Nat) (Z : List Nat), k ≤ xs.length ∧ i = .int .i64 k ∧ c = .int .u64 C ∧ C ≤ 1 ∧ Z.length = k ∧ val Z + 4294967296 ^ k * C = val (xs.take k) + val (ys.take k) ∧
   Ow wr w.heap.size (.slice (some ⟨w.heap.size, 0, none⟩) (xs.length + 1) (xs.length + 1)) (Z ++ (xs.drop k ++ [0])) ∧ Below w.heap.size w wr) (fun _ i _ => xs.length - (intOf i).toNat)
 case atStart => exact ⟨0, 0, [], Nat.zero_le _, rfl, rfl, by omega, rfl, by simp [val], by simpa using HO.out, hb1⟩
 case round =>
  obtain ⟨k, C, Z, hk, rfl, rfl, hC, hZ, hval, hown, hbl⟩ := hrel
  have HV : Hid (val Z + 4294967296 ^ k * C = val (xs.take k) + val (ys.take k)) := hval
  have HZ : Hid (Z.length = k) := hZ
  have HW : Hid (Ow wr w.heap.size (.slice (some ⟨w.heap.size, 0, none⟩) (xs.length + 1) (xs.length + 1)) (Z ++ (xs.drop k ++ [0]))) := hown
  clear hval hZ hown HO hb1
  by_cases hlt : k < xs.length
  ·obtain ⟨x, hx⟩ := xBL hlt
   have hx32 : x < 4294967296 := HS.out.1.get hx
   have hd : xs.drop k = x :: xs.drop (k + 1) := xFL hx
   have hw := HW.out
   rw [hd] at hw
   obtain ⟨hcell, hfr⟩ := hw.at (k := k) (get_mid HZ.out)
   have HX : Hid (xs.take (k + 1) = xs.take k ++ [x]) := xDA hx
   have HW2 : Hid (Ow wr w.heap.size (.slice (some ⟨w.heap.size, 0, none⟩) (xs.length + 1) (xs.length + 1)) (Z ++ x :: (xs.drop (k + 1) ++ [0]))) := hw
   clear hw hd hx HW
   have HLX : Hid ((xs.take k).length = k) := by show _ = _; simp; omega
   by_cases hlt' : k < ys.length
   ·obtain ⟨g, off, y, rfl, hy1, hy2, hy3⟩ := ((HS'.out.later hbl).flat').2 k hlt'
    have HY : Hid (ys.take (k + 1) = ys.take k ++ [y]) := xDA hy1
    have HLY : Hid ((ys.take k).length = k) := by show _ = _; simp; omega
    have hp := HW2.out.put hbl (Nat.le_refl _) (by simp [HZ.out]; omega) (k := k) (z := (C + x + y) % 4294967296) (V := ((C : Int) + x + y) % 4294967296) (by omega) (by omega) (ys := Z ++ [(C + x + y) % 4294967296] ++ (xs.drop (k + 1) ++ [0])) (by rw [set_mid _ _ _ _ _ HZ.out]; simp)
    have HP : Hid (Ow (wr.setCell ⟨w.heap.size, k, none⟩ (.int .u32 (((C : Int) + x + y) % 4294967296))) w.heap.size (.slice (some ⟨w.heap.size, 0, none⟩) (xs.length + 1) (xs.length + 1)) (Z ++ [(C + x + y) % 4294967296] ++ (xs.drop (k + 1) ++ [0])) ∧ Below w.heap.size w (wr.setCell ⟨w.heap.size, k, none⟩ (.int .u32 (((C : Int) + x + y) % 4294967296)))) := hp
    clear hp hy1
    go_wp2
    go_roundw
    case rel =>
     refine ⟨k + 1, (C + x + y) / 4294967296, Z ++ [(C + x + y) % 4294967296], by omega, by go_num, by go_num, by omega, by simp [HZ.out], ?_, HP.out.1, HP.out.2⟩
     rw [HX.out, HY.out, xBU (xs.take k), xBU (ys.take k), HLX.out, HLY.out]
     exact add_step HZ.out HV.out
    case measure => simp [intOf]; omega
   have HY : Hid (ys.take (k + 1) = ys.take k) := by show _ = _; rw [zO (by omega), zO (by omega)]
   have hp := HW2.out.put hbl (Nat.le_refl _) (by simp [HZ.out]; omega) (k := k) (z := (C + x + 0) % 4294967296) (V := ((C : Int) + x) % 4294967296) (by omega) (by omega) (ys := Z ++ [(C + x + 0) % 4294967296] ++ (xs.drop (k + 1) ++ [0])) (by rw [set_mid _ _ _ _ _ HZ.out]; simp)
   have HP : Hid (Ow (wr.setCell ⟨w.heap.size, k, none⟩ (.int .u32 (((C : Int) + x) % 4294967296))) w.heap.size (.slice (some ⟨w.heap.size, 0, none⟩) (xs.length + 1) (xs.length + 1)) (Z ++ [(C + x + 0) % 4294967296] ++ (xs.drop (k + 1) ++ [0])) ∧ Below w.heap.size w (wr.setCell ⟨w.heap.size, k, none⟩ (.int .u32 (((C : Int) + x) % 4294967296)))) := hp
   clear hp
   go_wp2
   go_roundw
   case rel =>
    refine ⟨k + 1, (C + x + 0) / 4294967296, Z ++ [(C + x + 0) % 4294967296], by omega, by go_num, by go_num, by omega, by simp [HZ.out], ?_, HP.out.1, HP.out.2⟩
    have := add_step (x := x) (y := 0) HZ.out HV.out
    rw [HX.out, HY.out, xBU (xs.take k), HLX.out]
    simpa using this
   case measure => simp [intOf]; omega
  have hk' : k = xs.length := by omega
  have hw := HW.out
  rw [zP (by omega), yH] at hw
  obtain ⟨hcell, hfr⟩ := hw.at (k := k) (get_mid HZ.out)
  have hp := hw.put hbl (Nat.le_refl _) (by simp [HZ.out]; omega) (k := k) (z := C) (V := (C : Int)) rfl (by omega) (ys := Z ++ [C]) (set_mid _ _ _ _ _ HZ.out)
  subst hk'
  have HP : Hid (Ow (wr.setCell ⟨w.heap.size, xs.length, none⟩ (.int .u32 (C : Int))) w.heap.size (.slice (some ⟨w.heap.size, 0, none⟩) (xs.length + 1) (xs.length + 1)) (Z ++ [C]) ∧ Below w.heap.size w (wr.setCell ⟨w.heap.size, xs.length, none⟩ (.int .u32 (C : Int)))) := hp
  clear hp hw HW
  go_wp2
  go_ret
  refine ⟨_, Z ++ [C], rfl, HP.out.1, ?_, HP.out.2⟩
  have := HV.out
  rw [List.take_length, zO hle] at this
  rw [xBU, HZ.out]; exact this
theorem sum_ltY (v u : Value) (xs ys : List Nat) (w : World) (h : Sl w v xs) (h' : Sl w u ys) (hle : ys.length < xs.length) (h64 : xs.length ≤ 64) :
  Calls Tryz.prog 125 #[u, v] w fun e w' => ∃ v' zs, e = .returned v' ∧ Ow w' w.heap.size v' zs ∧ val zs = val xs + val ys ∧ Below w.heap.size w w' := by
 obtain ⟨ao, cap, rfl, hao, hca, hcl⟩ := h.flat
 obtain ⟨bo, cap', rfl, hbo, hcb, hcl'⟩ := h'.flat
 unfold maxLen at hca hcb
 obtain ⟨i0, hi, hz0, hz1, hz2⟩ := info_parts info_u32
 have HS : Hid (Sl w (.slice ao xs.length cap) xs) := h
 have HS' : Hid (Sl w (.slice bo ys.length cap') ys) := h'
 clear h h' hcl hcl'
 go_enter Tryz.func125, Tryz.ntmps125
 go_wp2_with (first
  | (at_make; refine wpList_make_full _ rfl _ _ 35 rfl w.heap.size 38 i0 (.int .u32 0) 1 xDT hi hz0 hz1 .i64 .i64 _ _ (xs.length + 1) rfl rfl (by omega) (by omega) (by rw [hz2]; omega) (by unfold maxLen; omega) (Nat.le_refl _) ?_; intro w0 hown0 hgrow0))
 have hb0 : Below w.heap.size w w0 := (Below.refl _ _).grown hgrow0 (Nat.le_refl _) (by intro k hk; cases hk)
 obtain ⟨w1, hrun, ho1, hg1⟩ := run_copy_own (Ow.made hown0) (by simp) (HS.out.later hb0) (by omega)
 have hb1 : Below w.heap.size w w1 := hb0.grown hg1 hb0.size (by intro k hk; simp at hk; omega)
 have HO : Hid (Ow w1 w.heap.size (.slice (some ⟨w.heap.size, 0, none⟩) (xs.length + 1) (xs.length + 1)) (xs ++ [0])) := by
  have := ho1
  rw [List.drop_replicate, show xs.length + 1 - xs.length = 1 by omega] at this
  exact this
 clear hown0 hgrow0 ho1 hg1 hb0
 rw [hrun]
 go_wp2
 clear hrun
 go_loopw [6, 24] (fun c i wr => ∃ (k C : Nat) (Z : List Nat), k ≤ xs.length ∧ i = .int .i64 k ∧ c = .int .u64 C ∧ C ≤ 1 ∧ Z.length = k ∧ val Z + 4294967296 ^ k * C = val (xs.take k) + val (ys.take k) ∧
   Ow wr w.heap.size (.slice (some ⟨w.heap.size, 0, none⟩) (xs.length + 1) (xs.length + 1)) (Z ++ (xs.drop k ++ [0])) ∧ Below w.heap.size w wr) (fun _ i _ => xs.length - (intOf i).toNat)
 case atStart => exact ⟨0, 0, [], Nat.zero_le _, rfl, rfl, by omega, rfl, by simp [val], by simpa using HO.out, hb1⟩
 case round =>
  obtain ⟨k, C, Z, hk, rfl, rfl, hC, hZ, hval, hown, hbl⟩ := hrel
  have HV : Hid (val Z + 4294967296 ^ k * C = val (xs.take k) + val (ys.take k)) := hval
  have HZ : Hid (Z.length = k) := hZ
  have HW : Hid (Ow wr w.heap.size (.slice (some ⟨w.heap.size, 0, none⟩) (xs.length + 1) (xs.length + 1)) (Z ++ (xs.drop k ++ [0]))) := hown
  clear hval hZ hown HO hb1
  by_cases hlt : k < xs.length
  ·obtain ⟨x, hx⟩ := xBL hlt
   have hx32 : x < 4294967296 := HS.out.1.get hx
   have hd : xs.drop k = x :: xs.drop (k + 1) := xFL hx
   have hw := HW.out
   rw [hd] at hw
   obtain ⟨hcell, hfr⟩ := hw.at (k := k) (get_mid HZ.out)
   have HX : Hid (xs.take (k + 1) = xs.take k ++ [x]) := xDA hx
   have HW2 : Hid (Ow wr w.heap.size (.slice (some ⟨w.heap.size, 0, none⟩) (xs.length + 1) (xs.length + 1)) (Z ++ x :: (xs.drop (k + 1) ++ [0]))) := hw
   clear hw hd hx HW
   have HLX : Hid ((xs.take k).length = k) := by show _ = _; simp; omega
   by_cases hlt' : k < ys.length
   ·obtain ⟨g, off, y, rfl, hy1, hy2, hy3⟩ := ((HS'.out.later hbl).flat').2 k hlt'
    have HY : Hid (ys.take (k + 1) = ys.take k ++ [y]) := xDA hy1
    have HLY : Hid ((ys.take k).length = k) := by show _ = _; simp; omega
    have hp := HW2.out.put hbl (Nat.le_refl _) (by simp [HZ.out]; omega) (k := k) (z := (C + x + y) % 4294967296) (V := ((C : Int) + x + y) % 4294967296) (by omega) (by omega) (ys := Z ++ [(C + x + y) % 4294967296] ++ (xs.drop (k + 1) ++ [0])) (by rw [set_mid _ _ _ _ _ HZ.out]; simp)
    have HP : Hid (Ow (wr.setCell ⟨w.heap.size, k, none⟩ (.int .u32 (((C : Int) + x + y) % 4294967296))) w.heap.size (.slice (some ⟨w.heap.size, 0, none⟩) (xs.length + 1) (xs.length + 1)) (Z ++ [(C + x + y) % 4294967296] ++ (xs.drop (k + 1) ++ [0])) ∧ Below w.heap.size w (wr.setCell ⟨w.heap.size, k, none⟩ (.int .u32 (((C : Int) + x + y) % 4294967296)))) := hp
    clear hp hy1
    go_wp2
    go_roundw
    case rel =>
     refine ⟨k + 1, (C + x + y) / 4294967296, Z ++ [(C + x + y) % 4294967296], by omega, by go_num, by go_num, by omega, by simp [HZ.out], ?_, HP.out.1, HP.out.2⟩
     rw [HX.out, HY.out, xBU (xs.take k), xBU (ys.take k), HLX.out, HLY.out]
     exact add_step HZ.out HV.out
    case measure => simp [intOf]; omega
   have HY : Hid (ys.take (k + 1) = ys.take k) := by show _ = _; rw [zO (by omega), zO (by omega)]
   have hp := HW2.out.put hbl (Nat.le_refl _) (by simp [HZ.out]; omega) (k := k) (z := (C + x + 0) % 4294967296) (V := ((C : Int) + x) % 4294967296) (by omega) (by omega) (ys := Z ++ [(C + x + 0) % 4294967296] ++ (xs.drop (k + 1) ++ [0])) (by rw [set_mid _ _ _ _ _ HZ.out]; simp)
   have HP : Hid (Ow (wr.setCell ⟨w.heap.size, k, none⟩ (.int .u32 (((C : Int) + x) % 4294967296))) w.heap.size (.slice (some ⟨w.heap.size, 0, none⟩) (xs.length + 1) (xs.length + 1)) (Z ++ [(C + x + 0) % 4294967296] ++ (xs.drop (k + 1) ++ [0])) ∧ Below w.heap.size w (wr.setCell ⟨w.heap.size, k, none⟩ (.int .u32 (((C : Int) + x) % 4294967296)))) := hp
   clear hp
   go_wp2
   go_roundw
   case rel =>
    refine ⟨k + 1, (C + x + 0) / 4294967296, Z ++ [(C + x + 0) % 4294967296], by omega, by go_num, by go_num, by omega, by simp [HZ.out], ?_, HP.out.1, HP.out.2⟩
    have := add_step (x := x) (y := 0) HZ.out HV.out
    rw [HX.out, HY.out, xBU (xs.take k), HLX.out]
    simpa using this
   case measure => simp [intOf]; omega
  have hk' : k = xs.length := by omega
  have hw := HW.out
  rw [zP (by omega), yH] at hw
  obtain ⟨hcell, hfr⟩ := hw.at (k := k) (get_mid HZ.out)
  have hp := hw.put hbl (Nat.le_refl _) (by simp [HZ.out]; omega) (k := k) (z := C) (V := (C : Int)) rfl (by omega) (ys := Z ++ [C]) (set_mid _ _ _ _ _ HZ.out)
  subst hk'
  have HP : Hid (Ow (wr.setCell ⟨w.heap.size, xs.length, none⟩ (.int .u32 (C : Int))) w.heap.size (.slice (some ⟨w.heap.size, 0, none⟩) (xs.length + 1) (xs.length + 1)) (Z ++ [C]) ∧ Below w.heap.size w (wr.setCell ⟨w.heap.size, xs.length, none⟩ (.int .u32 (C : Int)))) := hp
  clear hp hw HW
  go_wp2
  go_ret
  refine ⟨_, Z ++ [C], rfl, HP.out.1, ?_, HP.out.2⟩
  have := HV.out
  rw [List.take_length, zO (Nat.le_of_lt hle)] at this
  rw [xBU, HZ.out]; exact this
theorem sum_anyY (v u : Value) (xs ys : List Nat) (w : World) (h : Sl w v xs) (h' : Sl w u ys) (h64 : xs.length ≤ 64) (h64' : ys.length ≤ 64) :
  Calls Tryz.prog 125 #[v, u] w fun e w' => ∃ v' zs, e = .returned v' ∧ Ow w' w.heap.size v' zs ∧ val zs = val xs + val ys ∧ Below w.heap.size w w' := by
 by_cases hle : ys.length ≤ xs.length
 ·exact sum_leY v u xs ys w h h' hle h64
 refine (sum_ltY u v ys xs w h' h (by omega) h64').mono ?_
 rintro e w' ⟨v', zs, he, ho, hv, hb⟩
 exact ⟨v', zs, he, ho, by omega, hb⟩
theorem add_any (v u : Value) (xs ys : List Nat) (w : World) (h : Sl w v xs) (h' : Sl w u ys) :
  Calls Tryz.prog 71 #[v, u] w fun e w' => ∃ v', e = .returned (.tuple #[v', .int .i64 (addE xs ys)]) ∧ Ow w' w.heap.size v' (addL xs ys) ∧ Below w.heap.size w w' := by
 go_enter Tryz.func71, Tryz.ntmps71
 go_wp2_with fail
 refine (xCB v xs _ h).mono ?_
 rintro e w1 ⟨rfl, rfl⟩
 cases hr : rightB xs
 ·go_wp2
  go_ret2
  exact ⟨_, ret2i (by simp [addE, hr]), by simp [addL, hr]; exact Ow.nil _ _, Below.refl _ _⟩
 go_wp2_with fail
 refine (xCB u ys _ h').mono ?_
 rintro e w1 ⟨rfl, rfl⟩
 cases hr' : rightB ys
 ·go_wp2
  go_ret2
  exact ⟨_, ret2i (by simp [addE, hr']), by simp [addL, hr']; exact Ow.nil _ _, Below.refl _ _⟩
 go_wp2_with fail
 refine (sum_anyY v u xs ys _ h h' (xAV hr) (xAV hr')).mono ?_
 rintro e w2 ⟨v2, zs, rfl, ho, hv, hb⟩
 have HV : Hid (val zs = val xs + val ys) := hv
 clear hv
 go_wp2_with fail
 refine (inBounds_any v2 zs _ _ ho).mono ?_
 rintro e w3 ⟨v3, rfl, ho3, rfl⟩
 rw [HV.out] at ho3 ⊢
 go_wp2
 go_ret2
 exact ⟨_, ret2i (by simp [addE, hr, hr']), by simp only [addL, hr, hr', Bool.and_self, if_true]; exact ho3, hb⟩
theorem Ow.held {w w' : World} {base : Nat} {v : Value} {xs : List Nat} {row : Option Nat} (h : Ow w base v xs) (hg : w.grownBy w' row) (hne : v.ownBlock = none ∨ v.ownBlock ≠ row) : Ow w' base v xs := ⟨h.1, h.2.kept hg hne⟩
theorem Ow.since {w w' : World} {base : Nat} {v : Value} {xs : List Nat} (h : Ow w base v xs) (hb : Below w.heap.size w w') : Ow w' base v xs :=
 h.held (row := none) ⟨hb.os, hb.tape, hb.output, hb.size, fun k hk _ => hb.block k hk⟩ (by cases hv : v.ownBlock <;> simp)
theorem Ow.slice {w : World} {base : Nat} {v : Value} {xs : List Nat} (h : Ow w base v xs) : ∃ ao n cap, v = .slice ao n cap := by
 rcases h.2.2 with ⟨rfl, hn⟩ | ⟨g, cap, cur, rfl, _⟩
 ·exact ⟨_, _, _, rfl⟩
 exact ⟨_, _, _, rfl⟩
def OM (w : World) (base : Nat) (v : Value) (p : List Mn) : Prop :=
 ∃ cs : List (Value × Value), cs.length = p.length ∧ (∀ (i : Nat) (c : Value × Value) (m : Mn), cs[i]? = some c → p[i]? = some m → Ow w base c.1 m.1 ∧ OwI w base c.2 m.2) ∧
  w.ownsRow base 37 2 v p.length (cs.flatMap fun c => [c.1, c.2])
theorem flat2_get {cs : List (Value × Value)} : ∀ {i : Nat} {c : Value × Value}, cs[i]? = some c → (cs.flatMap fun c => [c.1, c.2])[i * 2]? = some c.1 ∧ (cs.flatMap fun c => [c.1, c.2])[i * 2 + 1]? = some c.2 := by
 induction cs with
 | nil => intro i c h; simp at h
 | cons a r ih =>
  intro i c h
  cases i with
  | zero => simp at h; subst h; simp
  | succ i =>
   rw [yP] at h
   obtain ⟨h1, h2⟩ := ih h
   rw [List.flatMap_cons]
   refine ⟨?_, ?_⟩
   ·rw [show (i + 1) * 2 = i * 2 + 1 + 1 by omega]; simpa using h1
   rw [show (i + 1) * 2 + 1 = i * 2 + 1 + 1 + 1 by omega]; simpa using h2
theorem OM.ms {w : World} {base : Nat} {v : Value} {p : List Mn} (h : OM w base v p) : Ms w v p := by
 obtain ⟨cs, hl, hc, ho⟩ := h
 have ho2 := ho
 rcases ho2.2 with ⟨rfl, hn⟩ | ⟨g, cap, cur, rfl, hb, hg, hcap, hm, hs, ht⟩
 ·exact ⟨none, 0, by rw [hn], by omega, by simp [maxLen], by omega⟩
 refine ⟨_, cap, rfl, hcap, hm, fun _ => ⟨g, 0, rfl, (zL.1 hg).1, ?_⟩⟩
 intro k m hk
 have hlt : k < p.length := (zB.1 hk).1
 have hck : cs[k]? = some cs[k] := zC (by omega)
 obtain ⟨h1, h2⟩ := flat2_get hck
 obtain ⟨o1, o2⟩ := hc k _ m hck hk
 refine ⟨cs[k].1, cs[k].2, ?_, ?_, o1.sl, o2.is⟩
 ·rw [Nat.zero_add, World.ownsRow.cellAt ho2 (k * 2) (by omega)]
  have := (zB.1 h1)
  obtain ⟨ha, hb'⟩ := this
  simp [← hb']
 rw [Nat.zero_add, World.ownsRow.cellAt ho2 (k * 2 + 1) (by omega)]
 have := (zB.1 h2)
 obtain ⟨ha, hb'⟩ := this
 simp [← hb']
theorem OM.nil (w : World) (base : Nat) : OM w base (.slice none 0 0) [] := ⟨[], rfl, fun i c m h => (by simp at h), World.ownsRow_nil _ _ _ _⟩
theorem OM.slice {w : World} {base : Nat} {v : Value} {p : List Mn} (h : OM w base v p) : ∃ ao cap, v = .slice ao p.length cap := by
 obtain ⟨cs, hl, hc, ho⟩ := h
 rcases ho.2 with ⟨rfl, hn⟩ | ⟨g, cap, cur, rfl, _⟩
 ·exact ⟨_, 0, by rw [hn]⟩
 exact ⟨_, cap, rfl⟩
theorem OM.later {w w' : World} {base : Nat} {v : Value} {p : List Mn} (h : OM w base v p) (hb : Below w.heap.size w w') : OM w' base v p := by
 obtain ⟨cs, hl, hc, ho⟩ := h
 refine ⟨cs, hl, fun i c m h1 h2 => ⟨(hc i c m h1 h2).1.since hb, (hc i c m h1 h2).2.later hb⟩, ?_⟩
 exact World.ownsRow.kept (row := none) ho ⟨hb.os, hb.tape, hb.output, hb.size, fun k hk _ => hb.block k hk⟩ (by cases hv : v.ownBlock <;> simp)
theorem info_mono : (Tryz.prog.info? 37).map (fun i => (i.zero, i.size, i.bytes)) = some (some (.agg #[.slice none 0 0, .slice none 0 0]), 2, 48) := by kernel_rfl
theorem under_monos : Tryz.prog.underlying 31 = some (.slice 37) := by kernel_rfl
end Go.Proofs.YtdjmjhlbjcgoiaaGreatDoor
namespace Go.Proofs.YtdjmjhlbjcgoiaaGreatDoor
open Go.RowKit Go.Maps
theorem rowKey : (160 : TypeId) < Tryz.prog.types.size := of_decide_eq_true (by kernel_rfl)
theorem wideKey : (match Tryz.prog.underlying 160 with | some (.array _ _) | some (.struct _) => true | _ => false) = true := by rw [xAU]
theorem keyLaw : WideMaps.KeyLaw Tryz.prog 160 := deep_law_laid laidOut (m := 2) (by omega) rowKey (by kernel_rfl) wideKey
theorem keyed : Keyed Tryz.prog 160 := Keyed.of_law keyLaw
theorem xES : Tryz.prog.underlying 109 = some (.map 160 171) := by kernel_rfl
theorem zeroCoef (w : World) : (zeroValue 171).run Tryz.prog w = .ok (.agg #[.slice none 0 0]) w := by kernel_rfl
def WfK (ks : List Nat) : Prop := ks.length = 512 ∧ ∀ (j x : Nat), ks[j]? = some x → x < 256
theorem mapM_some {α β : Type} (f : α → Option β) (g : α → β) : ∀ l : List α, (∀ x ∈ l, f x = some (g x)) → l.mapM f = some (l.map g)
 | [], _ => by simp
 | a :: l, h => by
  rw [List.mapM_cons, h a (by simp), mapM_some f g l (fun x hx => h x (by simp [hx]))]
  rfl
def kl (ks : List Nat) : Lit := .string (keyBytes (((List.range 512).map fun i => [Lit.int .u8 ((ks[i]?.getD 0 : Nat) : Int)]).flatten))
theorem xCU {ks : List Nat} (h : WfK ks) : keyOf Tryz.prog 160 (.agg (arr ks)) = some (kl ks) := by
 have h1 : Tryz.prog.keyType 160 = true := by kernel_rfl
 have h2 : Tryz.prog.cellsOf 160 = 512 := by kernel_rfl
 have h3 : Tryz.prog.cellsOf 5 = 1 := by kernel_rfl
 have h4 : Tryz.prog.underlying 5 = some (.int .u8) := by kernel_rfl
 have h5 : ∃ d, Tryz.prog.types.size + 1 = d + 1 + 1 := ⟨Tryz.prog.types.size - 1, by have : 1 ≤ Tryz.prog.types.size := of_decide_eq_true (by kernel_rfl); omega⟩
 have hf : (Value.agg (arr ks)).formed Tryz.prog 160 = true := by
  simp only [Value.formed, xAU, h2, xAN, h.1]; rfl
 unfold keyOf
 simp only [xAU, h1, hf, Bool.and_self, if_true]
 obtain ⟨d, hd⟩ := h5
 rw [hd]
 have hk : Tryz.prog.keyLits (d + 1 + 1) 160 (Value.agg (arr ks)).cells.toList = some (((List.range 512).map fun i => [Lit.int .u8 ((ks[i]?.getD 0 : Nat) : Int)]).flatten) := by
  unfold Program.keyLits
  simp only [xAU, h2, h3]
  have hl : (Value.agg (arr ks)).cells.toList.length = 512 := by simp [Value.cells, arr, h.1]
  rw [if_pos hl, mapM_some _ (fun i => [Lit.int .u8 ((ks[i]?.getD 0 : Nat) : Int)])]
  ·rfl
  intro i hi
  have hi5 : i < 512 := List.mem_range.1 hi
  obtain ⟨x, hx⟩ : ∃ x, ks[i]? = some x := xBL (by have := h.1; omega)
  have hx8 := h.2 i x hx
  have hc : (((Value.agg (arr ks)).cells.toList.drop (i * 1)).take 1) = [.int .u8 (x : Int)] := by
   simp only [Value.cells, arr, Nat.mul_one]
   have : (ks.map fun (x : Nat) => Value.int .u8 (x : Int))[i]? = some (.int .u8 (x : Int)) := by rw [zU, hx]; rfl
   rw [xAK this]; rfl
  rw [hc]
  unfold Program.keyLits
  simp only [h4]
  have hwf : (Lit.int .u8 (x : Int)).wf = true := by
   have e0 : IntKind.u8.min = 0 := by decide
   have e1 : IntKind.u8.max = 255 := by decide
   simp [Lit.wf, e0, e1]; omega
  rw [if_pos ⟨trivial, hwf⟩, hx]
  rfl
 rw [hk]
 rfl
def RVY (v : Value) : Option (DataW Value × List MemPlace) := some (.held v, [])
theorem kl_inj {a b : List Nat} (ha : WfK a) (hb : WfK b) (h : kl a = kl b) : a = b := by
 have h1 := xCU ha
 rw [h] at h1
 have := keyed.inj h1 (xCU hb)
 simp only [Value.agg.injEq, arr] at this
 have h2 : (a.map fun (x : Nat) => Value.int .u8 (x : Int)) = b.map fun (x : Nat) => Value.int .u8 (x : Int) := by simpa using this
 apply List.ext_getElem?
 intro i
 have h3 := congrArg (fun l => l[i]?) h2
 simp only [zU] at h3
 cases hai : a[i]? <;> cases hbi : b[i]? <;> simp_all
 omega
structure MapOk (w : World) (base b : Nat) (L : LkY) : Prop where
 rising : Rising L
 keys : ∀ p ∈ L, WfK p.1
 own : ∃ D : DataW Value, w.ownsMap Tryz.prog 160 RVY b L.length D ∧ Maps.size D = L.length ∧
  (∀ k c, (k, c) ∈ L → ∃ v, (∀ z, D.atKey (kl k) z = .held (.agg #[v])) ∧ Ow w base v c ∧ Maps.has D (kl k) = true) ∧
  (∀ l, Maps.has D l = true → ∃ k c, (k, c) ∈ L ∧ l = kl k)
theorem ow_notMap {w : World} {base b : Nat} {v : Value} {c : List Nat} {es : Array MapEntry} {clock : Nat} (h : Ow w base v c) (hb : w.heap[b]? = some (.map es clock)) : v.ownBlock = none ∨ v.ownBlock ≠ some b := by
 rcases h.2.2 with ⟨rfl, _⟩ | ⟨g, cap, cur, rfl, _, hg, _⟩
 ·exact .inl rfl
 refine .inr ?_
 simp only [Value.ownBlock]
 intro e
 cases e
 rw [hg] at hb
 cases hb
theorem MapOk.isMap {w : World} {base b : Nat} {L : LkY} (h : MapOk w base b L) : ∃ es clock, w.heap[b]? = some (.map es clock) := by
 obtain ⟨D, hD, _⟩ := h.own
 obtain ⟨es, clock, hb, _⟩ := hD
 exact ⟨es, clock, hb⟩
theorem MapOk.lt {w : World} {base b : Nat} {L : LkY} (h : MapOk w base b L) : b < w.heap.size := by
 obtain ⟨es, clock, hb⟩ := h.isMap
 exact (zL.1 hb).1
theorem MapOk.later {w w' : World} {base b : Nat} {L : LkY} (h : MapOk w base b L) (hb : Below w.heap.size w w') : MapOk w' base b L := by
 obtain ⟨D, h1, h2, h3, h4⟩ := h.own
 refine ⟨h.rising, h.keys, D, h1.kept (row := none) ⟨hb.os, hb.tape, hb.output, hb.size, fun k hk _ => hb.block k hk⟩ (by simp), h2, fun k c hk => ?_, h4⟩
 obtain ⟨v, a, o, d⟩ := h3 k c hk
 exact ⟨v, a, o.since hb, d⟩
theorem MapOk.made (w : World) (base : Nat) : MapOk (w.alloc (.map #[] 0)) base w.heap.size [] :=
 ⟨List.Pairwise.nil, fun p hp => (by cases hp), ⟨DataW.map [], World.ownsMap_made w _ _ _, rfl, fun k c hk => (by cases hk), fun l hl => (by simp [Maps.has] at hl)⟩⟩
theorem MapOk.look {w : World} {base b : Nat} {L : LkY} (h : MapOk w base b L) {k : List Nat} (hk : WfK k) :
  ∃ v, (Instr.lookup 109 (.map (some b)) (.agg (arr k)) false).run Tryz.prog w = .ok (.agg #[v]) w ∧ Ow w base v (coefK L k) := by
 obtain ⟨D, h1, h2, h3, h4⟩ := h.own
 obtain ⟨u, ps, hrun, hR⟩ := h1.lookup keyed xES (zeroCoef w) (zd := .held (.agg #[.slice none 0 0])) (zp := []) rfl (xCU hk)
 have hu : D.atKey (kl k) (.held (.agg #[.slice none 0 0])) = .held u := by
  simp only [RVY, zX, Prod.mk.injEq] at hR
  exact hR.1.symm
 cases hh : hasK L k with
 | true =>
  obtain ⟨c, hc⟩ := xBI.1 hh
  obtain ⟨v, ha, ho, _⟩ := h3 k c hc
  rw [ha] at hu
  injection hu with hu
  subst hu
  exact ⟨v, hrun, by rw [xCV h.rising hc]; exact ho⟩
 | false =>
  have hf : Maps.has D (kl k) = false := by
   rw [Bool.eq_false_iff]
   intro ht
   obtain ⟨k', c', hc', e⟩ := h4 _ ht
   have := kl_inj hk (h.keys _ hc') e
   subst this
   have := xBI.2 ⟨c', hc'⟩
   rw [hh] at this
   cases this
  rw [atKey_of_not_has hf] at hu
  injection hu with hu
  subst hu
  exact ⟨_, hrun, by rw [xBZ hh]; exact Ow.nil w base⟩
theorem MapOk.store {w : World} {base b : Nat} {L : LkY} (h : MapOk w base b L) {k c : List Nat} {v : Value} (hk : WfK k) (hL : L.length < maxLen) (hv : Ow w base v c) :
  ∃ w', (Instr.mapUpdate 109 (.map (some b)) (.agg (arr k)) (.agg #[v])).run Tryz.prog w = .ok () w' ∧ MapOk w' base b (insK L k c) ∧ w.grownBy w' (some b) := by
 obtain ⟨es, clock, hbm⟩ := h.isMap
 obtain ⟨D, h1, h2, h3, h4⟩ := h.own
 obtain ⟨w', hrun, ho, hg⟩ := h1.update keyed xES hL (xCU hk) (val := .agg #[v]) (d := .held (.agg #[v])) (ps := []) rfl
 have hT := h1.tidy keyed
 have hK := keyed.key (xCU hk)
 have hhas : Maps.has D (kl k) = hasK L k := by
  rw [Bool.eq_iff_iff]
  constructor
  ·intro ht
   obtain ⟨k', c', hc', e⟩ := h4 _ ht
   have := kl_inj hk (h.keys _ hc') e
   subst this
   exact xBI.2 ⟨c', hc'⟩
  intro ht
  obtain ⟨c', hc'⟩ := xBI.1 ht
  obtain ⟨_, _, _, hd⟩ := h3 k c' hc'
  exact hd
 have hsz : Maps.size (D.put (kl k) (.held (.agg #[v]))) = (insK L k c).length := by
  rw [size_put hT, length_insK h.rising, hhas, h2]
 obtain ⟨es', clock', hb', F', _, hD'⟩ := ho
 have hes : es'.size = (insK L k c).length := by
  rw [← hsz, hD', Maps.size_eq, length_sorted]
  simp
 refine ⟨w', hrun, ⟨xDE h.rising, fun p hp => ?_, ⟨D.put (kl k) (.held (.agg #[v])), ⟨es', clock', hb', F', Nat.le_of_eq hes, hD'⟩, hsz, fun k' c' hm => ?_, fun l hl => ?_⟩⟩, hg⟩
 ·rcases (xCX h.rising p).1 hp with rfl | ⟨hp, _⟩
  ·exact hk
  exact h.keys p hp
 ·rcases (xCX h.rising _).1 hm with e | ⟨hm, hne⟩
  ·cases e
   exact ⟨v, fun z => atKey_put_same hT.isMap hK _ z, hv.held hg (ow_notMap hv hbm), has_put_same hT.isMap hK _⟩
  obtain ⟨u, ha, hou, hd⟩ := h3 k' c' hm
  have hne' : kl k' ≠ kl k := fun e => hne (kl_inj (h.keys _ hm) hk e)
  exact ⟨u, fun z => by rw [atKey_put_other hne']; exact ha z, hou.held hg (ow_notMap hou hbm), by rw [has_put_other hne']; exact hd⟩
 by_cases e : l = kl k
 ·exact ⟨k, c, (xCX h.rising _).2 (.inl rfl), e⟩
 rw [has_put_other e] at hl
 obtain ⟨k', c', hc', rfl⟩ := h4 l hl
 exact ⟨k', c', (xCX h.rising _).2 (.inr ⟨hc', fun e2 => e (by rw [show k' = k from e2])⟩), rfl⟩
theorem MapOk.len {w : World} {base b : Nat} {L : LkY} (h : MapOk w base b L) (ty : TypeId) : (Builtin.len_ #[109] ty #[.map (some b)]).run Tryz.prog w = .ok (.int .i64 (L.length : Int)) w := by
 obtain ⟨D, h1, h2, _⟩ := h.own
 have := h1.len xES ty
 rw [h2] at this
 exact this
theorem field_coef (u : Value) (w : World) : (Instr.field 171 (.agg #[u]) 0).run Tryz.prog w = .ok u w := by kernel_rfl
section
variable {P : Program} {w w' : World} {ops : Array Oper} {rest : List Oper} {o : Oper} {a : Act} {Q : Exit → Act → World → Prop}
end
theorem put_any (b base : Nat) (L : LkY) (k c : List Nat) (v : Value) (w : World) (h : MapOk w base b L) (hk : WfK k) (hc : Sl w v c) (hL : L.length ≤ 256) (hB : base ≤ w.heap.size) :
  Calls Tryz.prog 117 #[.map (some b), .agg (arr k), v] w fun e w' => e = .returned (.int .i64 (putE L k c)) ∧ MapOk w' base b (putL L k c) ∧ w.grownBy w' (some b) := by
 have hb1 := zA (w := w) (.cells (arr k) 160)
 have h1 := h.later hb1
 have hc1 := hc.kp (zK hb1)
 obtain ⟨u, hrun, hu⟩ := h1.look hk
 have HG1 : Hid (w.grownBy (w.alloc (.cells (arr k) 160)) (some b)) := xAA hb1 _
 have hl512 := hk.1
 have HK : Hid (WfK k) := hk
 have HRun : Hid ((Instr.lookup 109 (.map (some b)) (.agg (arr k)) false).run Tryz.prog (w.alloc (.cells (arr k) 160)) = .ok (.agg #[u]) (w.alloc (.cells (arr k) 160))) := hrun
 have H1 : Hid (MapOk (w.alloc (.cells (arr k) 160)) base b L) := h1
 have HC1 : Hid (Sl (w.alloc (.cells (arr k) 160)) v c) := hc1
 have HU : Hid (Ow (w.alloc (.cells (arr k) 160)) base u (coefK L k)) := hu
 have hB1 : Hid (base ≤ (w.alloc (.cells (arr k) 160)).heap.size) := Nat.le_trans hB hb1.size
 clear hb1 h1 hc1 hu h hk hc hrun
 have hfield := field_coef u
 go_enter Tryz.func117, Tryz.ntmps117
 go_wp2_with (first
  | (refine wpList_load_row rfl _ _ rfl w.heap.size rfl _ _ _ _ (Ar.new w k) xAU rfl (by rw [xAZ, xAN, hl512]) ?_)
  | (at_lookup; refine xAT rfl _ _ _ _ rfl _ _ _ rfl rfl HRun.out ?_))
 refine (add_any u v (coefK L k) c _ HU.out.sl HC1.out).mono ?_
 rintro e w1 ⟨v', rfl, ho, hb⟩
 obtain ⟨ao, n, cap, rfl⟩ := ho.slice
 have HG2 : Hid (w.grownBy w1 (some b)) := xBG HG1.out (xAA hb _)
 have HO : Hid (Ow w1 base (.slice ao n cap) (addL (coefK L k) c)) := ho.mono hB1.out
 have H2 : Hid (MapOk w1 base b L) := H1.out.later hb
 have HA : Hid (Ar w1 w.heap.size k) := (Ar.new w k).later hb
 clear ho hb H1 HC1 HU HG1 hB1 HRun
 obtain ⟨E, hE⟩ : ∃ E, E = addE (coefK L k) c := ⟨_, rfl⟩
 have HE : Hid (E = addE (coefK L k) c) := hE
 rw [← hE]
 clear hE
 by_cases hE0 : E = 0
 ·subst hE0
  have HE' : Hid (addE (coefK L k) c = 0) := HE.out.symm
  obtain ⟨w2, hrun2, hok2, hg2⟩ := H2.out.store HK.out (by unfold maxLen; omega) HO.out
  have HRun2 : Hid ((Instr.mapUpdate 109 (.map (some b)) (.agg (arr k)) (.agg #[.slice ao n cap])).run Tryz.prog w1 = .ok () w2) := hrun2
  have HG3 : Hid (w.grownBy w2 (some b)) := xBG HG2.out hg2
  have HM : Hid (MapOk w2 base b (insK L k (addL (coefK L k) c))) := hok2
  clear hrun2 hok2 hg2
  obtain ⟨N, hN⟩ : ∃ N, N = (insK L k (addL (coefK L k) c)).length := ⟨_, rfl⟩
  have HN : Hid (N = (insK L k (addL (coefK L k) c)).length) := hN
  have HLen : Hid (∀ ty, (Builtin.len_ #[109] ty #[.map (some b)]).run Tryz.prog w2 = .ok (.int .i64 (N : Int)) w2) := by
   intro ty
   rw [hN]
   exact HM.out.len ty
  clear hN
  go_wp2_with (first
   | (refine wpList_load_row rfl _ _ rfl w.heap.size rfl _ _ _ _ HA.out xAU rfl (by rw [xAZ, xAN, hl512]) ?_)
   | (at_mapUpdate; refine xBH rfl _ _ _ _ rfl _ _ _ rfl rfl rfl HRun2.out ?_))
  rw [HLen.out]
  have hNm : N ≤ 9223372036854775807 := by
   have := length_insK (k := k) (c := addL (coefK L k) c) H2.out.rising
   rw [← HN.out] at this
   split at this <;> omega
  by_cases hN6 : N ≤ 256
  ·go_wp2
   go_ret
   refine ⟨ret1i ?_, ?_, HG3.out⟩
   ·unfold putE; rw [if_pos HE'.out, if_pos (by rw [← HN.out]; exact hN6)]
   unfold putL; rw [if_pos HE'.out]; exact HM.out
  go_wp2
  go_ret
  refine ⟨ret1i ?_, ?_, HG3.out⟩
  ·unfold putE; rw [if_pos HE'.out, if_neg (by rw [← HN.out]; exact hN6)]
  unfold putL; rw [if_pos HE'.out]; exact HM.out
 have hb0 : (E != 0) = true := by rw [bne_iff_ne]; exact hE0
 go_wp2
 go_ret
 refine ⟨ret1i ?_, ?_, HG2.out⟩
 ·unfold putE; rw [← HE.out, if_neg hE0]
 unfold putL; rw [← HE.out, if_neg hE0]; exact H2.out
def bytesK (ks : List Nat) (acc : ByteArray) : ByteArray := ks.foldl (fun a x => a.push x.toUInt8) acc
theorem bytesK_data (ks : List Nat) : ∀ acc : ByteArray, (bytesK ks acc).data.toList = acc.data.toList ++ ks.map Nat.toUInt8 := by
 induction ks with
 | nil => intro acc; simp [bytesK]
 | cons a r ih =>
  intro acc
  have := ih (acc.push a.toUInt8)
  unfold bytesK at this ⊢
  rw [List.foldl_cons, this]
  simp [ByteArray.push]
theorem run_loadBytes {P : Program} (w : World) (g : Nat) : ∀ (l : List Nat) (o : Nat) (acc : ByteArray), (∀ (j x : Nat), l[j]? = some x → w.cell? ⟨g, o + j, none⟩ = some (.int .u8 (x : Int))) →
  (Extern.Bytes.loadBytes ⟨g, o, none⟩ l.length acc).run P w = .ok (bytesK l acc) w := by
 intro l
 induction l with
 | nil => intro o acc _; rfl
 | cons a r ih =>
  intro o acc h
  have h0 := h 0 a rfl
  rw [Nat.add_zero] at h0
  rw [zG, Extern.Bytes.loadBytes]
  have hadd : (⟨g, o, none⟩ : Addr).add 1 = ⟨g, o + 1, none⟩ := by unfold Addr.add; simp
  simp only [Sem.run_bind, run_load, h0, Result.andThen_ok, Int.toNat_natCast]
  rw [hadd, ih (o + 1) (acc.push a.toUInt8) (fun j x hj => by have := h (j + 1) x hj; rwa [show o + (j + 1) = o + 1 + j by omega] at this)]
  rfl
theorem toUInt8_lt {a b : Nat} (ha : a < 256) (hb : b < 256) : (a.toUInt8 < b.toUInt8) = (a < b) := by
 rw [UInt8.lt_iff_toNat_lt]
 simp only [Nat.toUInt8, UInt8.toNat_ofNat']
 rw [Nat.mod_eq_of_lt (by omega), Nat.mod_eq_of_lt (by omega)]
theorem xFC : ∀ (a b : List Nat), (∀ x ∈ a, x < 256) → (∀ x ∈ b, x < 256) → Lib.compareBytes (a.map Nat.toUInt8) (b.map Nat.toUInt8) = cmpK a b
 | [], [], _, _ => rfl
 | [], _ :: _, _, _ => rfl
 | _ :: _, [], _, _ => rfl
 | x :: r, y :: q, ha, hb => by
  have h1 := toUInt8_lt (ha x (by simp)) (hb y (by simp))
  have h2 := toUInt8_lt (hb y (by simp)) (ha x (by simp))
  have ih := xFC r q (fun z hz => ha z (by simp [hz])) (fun z hz => hb z (by simp [hz]))
  simp only [yW, Lib.compareBytes, cmpK, h1, h2, ih]
theorem WfK.mem {ks : List Nat} (h : WfK ks) : ∀ x ∈ ks, x < 256 := by
 intro x hx
 obtain ⟨j, hj⟩ := zW.1 hx
 exact h.2 j x hj
theorem run_compare {w : World} {g g' c c' : Nat} {a b : List Nat} (ha : Ar w g a) (hb : Ar w g' b) (hwa : WfK a) (hwb : WfK b) :
  (Extern.BytealgCompare.compare #[.slice (some ⟨g, 0, none⟩) 512 c, .slice (some ⟨g', 0, none⟩) 512 c']).run Tryz.prog w = .ok (.int .i64 (cmpK a b)) w := by
 have h1 := run_loadBytes (P := Tryz.prog) w g a 0 .empty (fun j x hj => by rw [Nat.zero_add]; exact ha.cell hj)
 have h2 := run_loadBytes (P := Tryz.prog) w g' b 0 .empty (fun j x hj => by rw [Nat.zero_add]; exact hb.cell hj)
 rw [hwa.1] at h1
 rw [hwb.1] at h2
 change Sem.run Tryz.prog (do pure (goInt (Extern.BytealgCompare.cmp (← Extern.Bytes.bytesOf (.slice (some ⟨g, 0, none⟩) 512 c)) (← Extern.Bytes.bytesOf (.slice (some ⟨g', 0, none⟩) 512 c'))))) w = _
 simp only [Extern.Bytes.bytesOf, Sem.run_bind, Sem.run_pure, h1, h2, Result.andThen_ok]
 rw [Lib.cmp_eq, bytesK_data, bytesK_data]
 have e0 : ByteArray.empty.data.toList = [] := rfl
 rw [e0, yH, yH, xFC a b hwa.mem hwb.mem]
 rfl
theorem bytesCompare_any {w : World} {g g' c c' : Nat} {a b : List Nat} (ha : Ar w g a) (hb : Ar w g' b) (hwa : WfK a) (hwb : WfK b) :
  Calls Tryz.prog 120 #[.slice (some ⟨g, 0, none⟩) 512 c, .slice (some ⟨g', 0, none⟩) 512 c'] w fun e w' => e = .returned (.int .i64 (cmpK a b)) ∧ w' = w := by
 have hrun := run_compare (c := c) (c' := c') ha hb hwa hwb
 go_enter Tryz.func120, Tryz.ntmps120
 go_wp2
 rw [run_callFunc_extern Tryz.func158 (by kernel_rfl) (by kernel_rfl) (by kernel_rfl) (e := Extern.BytealgCompare.compare) (by kernel_rfl), hrun]
 simp only [Result.andThen]
 rw [Oper.upon_value]
 go_wp2
 go_ret
 exact ⟨rfl, rfl⟩
end Go.Proofs.YtdjmjhlbjcgoiaaGreatDoor
