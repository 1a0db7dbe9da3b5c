/- Rows of exponents as bytes: packed, unpacked, raised. -/
import Derived.Test.YtfifgmcjilkigaaPBase
import Derived.Laws.Rows
import Derived.Laws.ResultCell
namespace Go.Proofs.Ytfifgmcjilkigaa
open Go.RowKit

/-- A row of bytes as an array's cells. -/
def arr (ks : List Nat) : Array Value := (ks.map fun (x : Nat) => Value.int .u8 (x : Int)).toArray

theorem arr_size (ks : List Nat) : (arr ks).size = ks.length := by simp [arr]

theorem arr_get {ks : List Nat} {k x : Nat} (h : ks[k]? = some x) : (arr ks)[k]? = some (.int .u8 (x : Int)) := by simp [arr, h]

theorem arr_one (ks : List Nat) : (arr ks).all (·.oneCell') = true := by
  rw [Array.all_eq_true_iff_forall_mem]
  intro v hv
  simp only [arr, List.mem_toArray, List.mem_map] at hv
  obtain ⟨x, _, rfl⟩ := hv
  rfl

def zeros : List Nat := List.replicate 512 0

set_option maxRecDepth 100000 in
theorem zero_cells : Try.zeroCells70 = arr zeros := by kernel_rfl

theorem len_zeros : zeros.length = 512 := List.length_replicate

/-- Block g holds a row of bytes. -/
def Ar (w : World) (g : Nat) (ks : List Nat) : Prop := w.heap[g]? = some (.cells (arr ks) 70 (0, 0))

theorem Ar.lt {w : World} {g : Nat} {ks : List Nat} (h : Ar w g ks) : g < w.heap.size := (Array.getElem?_eq_some_iff.1 h).1

theorem Ar.cell {w : World} {g : Nat} {ks : List Nat} (h : Ar w g ks) {k x : Nat} (hk : ks[k]? = some x) : w.cell? ⟨g, k, none⟩ = some (.int .u8 (x : Int)) := by
  rw [cell_of_row w g k _ _ _ h, arr_get hk]

theorem Ar.frozen {w : World} {g : Nat} {ks : List Nat} (h : Ar w g ks) (k : Nat) : w.frozen? ⟨g, k, none⟩ = false := by
  unfold Ar at h
  simp [World.frozen?, h]

theorem Ar.set {w : World} {g : Nat} {ks : List Nat} (h : Ar w g ks) (k x : Nat) : Ar (w.setCell ⟨g, k, none⟩ (.int .u8 (x : Int))) g (ks.set k x) := by
  unfold Ar at h ⊢
  rw [setCell_eq_setRow w g k _ _ _ _ h, setRow_heap w g _ _ _ _ h]
  congr 2
  simp [arr, List.map_set]

theorem Ar.below {w w' : World} {B g : Nat} {ks : List Nat} (h : Ar w g ks) (hb : Below B w w') (hg : g < B) : Ar w' g ks := (hb.block g hg).trans h

theorem Ar.later {w w' : World} {g : Nat} {ks : List Nat} (h : Ar w g ks) (hb : Below w.heap.size w w') : Ar w' g ks := h.below hb h.lt

theorem Ar.setOther {w : World} {g g' k : Nat} {ks : List Nat} {v : Value} (h : Ar w g ks) (hne : g ≠ g') : Ar (w.setCell ⟨g', k, none⟩ v) g ks := (Below.heap_setCell w ⟨g', k, none⟩ v g hne).trans h

theorem Ar.new (w : World) (ks : List Nat) : Ar (w.alloc (.cells (arr ks) 70)) w.heap.size ks := heap_alloc_new w _

/-- The exponents as a row of 512 bytes. -/
def keyX (es : List Int) : List Nat := es.map Int.toNat ++ List.replicate (512 - es.length) 0

/-- The same, as far as some place. -/
def keyTo (es : List Int) (k : Nat) : List Nat := (es.take k).map Int.toNat ++ List.replicate (512 - k) 0

theorem keyTo_full (es : List Int) : keyTo es es.length = keyX es := by simp [keyTo, keyX]

theorem keyTo_get {es : List Int} {k : Nat} (h : k < es.length) (h' : k < 512) : (keyTo es k)[k]? = some 0 := by
  unfold keyTo
  have hl : ((es.take k).map Int.toNat).length = k := by simp; omega
  rw [List.getElem?_append_right (by omega), hl, Nat.sub_self, List.getElem?_replicate, if_pos (by omega)]

theorem keyTo_step {es : List Int} {k : Nat} {x : Int} (h : es[k]? = some x) (h' : k < 512) : (keyTo es k).set k x.toNat = keyTo es (k + 1) := by
  have hk := (List.getElem?_eq_some_iff.1 h).1
  unfold keyTo
  rw [show 512 - k = (512 - (k + 1)) + 1 by omega, List.replicate_succ, set_mid _ _ _ _ _ (by simp; omega), take_get h]
  simp

theorem keyX_len {es : List Int} (h : es.length ≤ 512) : (keyX es).length = 512 := by simp [keyX]; omega

theorem info_arr : (Try.prog.info? 70).map (·.size) = some 512 := by kernel_rfl

theorem under_arr : Try.prog.underlying 70 = some (.array 512 5) := by kernel_rfl

theorem Ar.put {w w0 : World} {g B : Nat} {ks : List Nat} (h : Ar w g ks) (hb : Below B w0 w) (hB : B ≤ g) {k z : Nat} {V : Int} (hV : V = (z : Int)) {ys : List Nat} (hys : ks.set k z = ys) :
    Ar (w.setCell ⟨g, k, none⟩ (.int .u8 V)) g ys ∧ Below B w0 (w.setCell ⟨g, k, none⟩ (.int .u8 V)) := by
  subst hV; subst hys
  exact ⟨h.set k z, hb.setCell (p := ⟨g, k, none⟩) hB _⟩

theorem below_setRow {B : Nat} {a w : World} (h : Below B a w) {g : Nat} (hg : B ≤ g) {cs : Array Value} : Below B a (w.setRow g cs) :=
  h.trans ⟨rfl, rfl, rfl, by simp [World.setRow], fun k hk => setRow_other w g k _ (by omega)⟩

theorem results_ct_row {fn : Func} {p u : Tmp} (h : fn.results = #[.cell p 70, .tmp u]) (tmps : Array Value) (w : World) (g : Nat) (t : TypeId) (cs : Array Value) (fr : Nat × Nat)
    (hp : tmps.getD p undef = .pointer (some ⟨g, 0, none⟩)) (hg : w.heap[g]? = some (.cells cs t fr)) (hi : cs.size = 512) :
    (results fn tmps).run Try.prog w = .ok (.tuple #[.agg cs, tmps.getD u undef]) w := by
  rw [results_cell_tmp h, hp]
  simp only [asAddr, Sem.run_pure, Result.andThen_ok, run_loadVar_row w g t 70 cs fr _ hg under_arr rfl (by rw [info_arr, hi])]

/-- Exponents in bounds. -/
def Small (es : List Int) : Prop := es.length ≤ 512 ∧ ∀ (k : Nat) (x : Int), es[k]? = some x → 0 ≤ x ∧ x ≤ 64

set_option maxRecDepth 100000 in
set_option maxHeartbeats 800000 in
theorem packed_any (v : Value) (es : List Int) (w : World) (h : Is w v es) (hs : Small es) :
    Calls Try.prog 62 #[v] w fun e w' => e = .returned (.agg (arr (keyX es))) ∧ Below w.heap.size w w' := by
  obtain ⟨ao, cap, rfl, hao, hca, q0⟩ := Row.flat h
  unfold maxLen at hca
  have h512 := hs.1
  have HS : Hid (Small es) := hs
  have HI : Hid (Is w (.slice ao es.length cap) es) := h
  clear h q0 hs
  go_enter Try.func62, Try.ntmps62
  go_wp2
  rw [zero_cells]
  go_loopw [8] (fun i wr => ∃ k : Nat, k ≤ es.length ∧ i = .int .i64 k ∧ Ar wr w.heap.size zeros ∧ Ar wr (w.heap.size + 1) (keyTo es k) ∧ Below w.heap.size w wr) (fun i _ => es.length - (intOf i).toNat)
  case atStart =>
    refine ⟨0, by omega, rfl, ?_, ?_, ?_⟩
    · exact (Ar.new w zeros).later (below_alloc _)
    · have := Ar.new (w.alloc (.cells (arr zeros) 70)) zeros
      simpa [keyTo, zeros] using this
    · exact below_step (below_alloc _) (below_alloc _)
  case round =>
    obtain ⟨k, hk, rfl, hz, hy, hbl⟩ := hrel
    have HZ : Hid (Ar wr w.heap.size zeros) := hz
    have HY : Hid (Ar wr (w.heap.size + 1) (keyTo es k)) := hy
    clear hz hy
    by_cases hlt : k < es.length
    · obtain ⟨g, off, x, rfl, hx1, hx2, hx3, hx4⟩ := (HI.out.kp (Kp.of_below hbl)).at hlt
      have HX : Hid (es[k]? = some x) := hx1
      obtain ⟨hx5, hx6⟩ := HS.out.2 k x hx1
      have hcell := HY.out.cell (keyTo_get hlt (by omega))
      have hfr := HY.out.frozen k
      have hk512 : k < 512 := by omega
      clear hx1
      have hq := HY.out.put hbl (by omega) (k := k) (z := x.toNat) (V := x) (by omega) (keyTo_step HX.out hk512)
      have HP : Hid (Ar (wr.setCell ⟨w.heap.size + 1, k, none⟩ (.int .u8 x)) (w.heap.size + 1) (keyTo es (k + 1)) ∧ Below w.heap.size w (wr.setCell ⟨w.heap.size + 1, k, none⟩ (.int .u8 x))) := hq
      clear hq
      go_wp2
      go_roundw
      case rel => exact ⟨k + 1, by omega, by go_num, HZ.out.setOther (by omega), HP.out.1, HP.out.2⟩
      case measure => simp [intOf]; omega
    · have hke : k = es.length := by omega
      subst hke
      have hy := HY.out
      rw [keyTo_full] at hy
      have HY2 : Hid (Ar wr (w.heap.size + 1) (keyX es)) := hy
      have hl2 := keyX_len h512
      clear hy HY
      go_wp2_with (first
        | (refine wpList_load_row rfl _ _ rfl (w.heap.size + 1) rfl _ _ _ _ HY2.out under_arr rfl (by rw [info_arr, arr_size, hl2]) ?_)
        | (refine wpList_store_row rfl _ _ _ rfl w.heap.size (arr (keyX es)) rfl rfl _ _ HZ.out (by rw [info_arr, arr_size, hl2]) (by rw [arr_size, arr_size, len_zeros, hl2]) (arr_one _) ?_))
      refine bodyPost_ret (results_cell_row rfl _ _ w.heap.size _ (arr (keyX es)) (0, 0) _ rfl (setRow_heap wr _ _ _ _ _ HZ.out) under_arr rfl (by rw [info_arr, arr_size, hl2])) rfl ?_
      exact ⟨rfl, below_setRow hbl (Nat.le_refl _)⟩

/-- The bytes of two rows, added. -/
def addK (a b : List Nat) : List Nat := List.zipWith (· + ·) a b

def addTo (ks : List Nat) (es : List Int) (k : Nat) : List Nat := addK (ks.take k) ((es.take k).map Int.toNat) ++ ks.drop k

theorem addTo_get {ks : List Nat} {es : List Int} {k x : Nat} (hk : ks[k]? = some x) (h : k < es.length) : (addTo ks es k)[k]? = some x := by
  have h1 := (List.getElem?_eq_some_iff.1 hk).1
  have hl : (addK (ks.take k) ((es.take k).map Int.toNat)).length = k := by simp [addK]; omega
  unfold addTo
  rw [List.getElem?_append_right (by omega), hl, Nat.sub_self, List.getElem?_drop, Nat.add_zero, hk]

theorem addTo_step {ks : List Nat} {es : List Int} {k x : Nat} {y : Int} (hk : ks[k]? = some x) (h : es[k]? = some y) : (addTo ks es k).set k (x + y.toNat) = addTo ks es (k + 1) := by
  have h1 := (List.getElem?_eq_some_iff.1 hk).1
  have h2 := (List.getElem?_eq_some_iff.1 h).1
  have hl : (addK (ks.take k) ((es.take k).map Int.toNat)).length = k := by simp [addK]; omega
  unfold addTo
  rw [drop_get hk, set_mid _ _ _ _ _ hl, take_get hk, take_get h]
  unfold addK
  rw [List.map_append, List.zipWith_append (by simp; omega)]
  simp

theorem addK_zero (ks : List Nat) : ∀ n, n = ks.length → addK ks (List.replicate n 0) = ks := by
  intro n hn
  subst hn
  induction ks with
  | nil => rfl
  | cons a r ih => simp only [List.length_cons, List.replicate_succ, addK, List.zipWith_cons_cons, Nat.add_zero]; congr 1

theorem addTo_full {ks : List Nat} {es : List Int} (hk : ks.length = 512) (h : es.length ≤ 512) : addTo ks es es.length = addK ks (keyX es) := by
  unfold addTo keyX
  conv => rhs; rw [← List.take_append_drop es.length ks]
  unfold addK
  rw [List.zipWith_append (by simp; omega), List.take_of_length_le (Nat.le_refl es.length)]
  congr 1
  exact (addK_zero _ _ (by simp; omega)).symm

/-- What raised answers. -/
def raisedE (ks : List Nat) (es : List Int) : Int := if (addK ks (keyX es)).all (fun n => decide (n ≤ 64)) then 0 else 2
def raisedK (ks : List Nat) (es : List Int) : List Nat := if (addK ks (keyX es)).all (fun n => decide (n ≤ 64)) then addK ks (keyX es) else zeros

theorem addK_get {a b : List Nat} {k x y : Nat} (h : a[k]? = some x) (h' : b[k]? = some y) : (addK a b)[k]? = some (x + y) := by
  unfold addK; rw [List.getElem?_zipWith, h, h']

theorem keyX_get {es : List Int} {k : Nat} {y : Int} (h : es[k]? = some y) : (keyX es)[k]? = some y.toNat := by
  have h2 := (List.getElem?_eq_some_iff.1 h).1
  unfold keyX
  rw [List.getElem?_append_left (by simpa using h2), List.getElem?_map, h]; rfl

theorem keyX_high {es : List Int} {k : Nat} (h : es.length ≤ k) (hk : k < 512) : (keyX es)[k]? = some 0 := by
  unfold keyX
  rw [List.getElem?_append_right (by simpa using h), List.getElem?_replicate, if_pos (by simp; omega)]

set_option maxRecDepth 100000 in
set_option maxHeartbeats 800000 in
theorem raised_any (v : Value) (ks : List Nat) (es : List Int) (w : World) (h : Is w v es) (hs : Small es) (hk : ks.length = 512) (h64 : ∀ (j x : Nat), ks[j]? = some x → x ≤ 64) :
    Calls Try.prog 63 #[.agg (arr ks), v] w fun e w' => e = .returned (.tuple #[.agg (arr (raisedK ks es)), .int .i64 (raisedE ks es)]) ∧ Below w.heap.size w w' := by
  obtain ⟨ao, cap, rfl, hao, hca, q0⟩ := Row.flat h
  unfold maxLen at hca
  have h512 := hs.1
  have HS : Hid (Small es) := hs
  have HI : Hid (Is w (.slice ao es.length cap) es) := h
  have HK : Hid (ks.length = 512) := hk
  have H64 : Hid (∀ (j x : Nat), ks[j]? = some x → x ≤ 64) := h64
  clear h q0 hs h64 hk
  go_enter Try.func63, Try.ntmps63
  go_wp2
  rw [zero_cells]
  go_loopw [10] (fun i wr => ∃ k : Nat, k ≤ es.length ∧ i = .int .i64 k ∧ Ar wr w.heap.size (addTo ks es k) ∧ Ar wr (w.heap.size + 1) zeros ∧ (∀ (j x : Nat) (y : Int), j < k → ks[j]? = some x → es[j]? = some y → x + y.toNat ≤ 64) ∧ Below w.heap.size w wr) (fun i _ => es.length - (intOf i).toNat)
  case atStart =>
    refine ⟨0, by omega, rfl, ?_, ?_, fun j x y hj => absurd hj (by omega), ?_⟩
    · exact (Ar.new w ks).later (below_alloc _)
    · have := Ar.new (w.alloc (.cells (arr ks) 70)) zeros
      simpa using this
    · exact below_step (below_alloc _) (below_alloc _)
  case round =>
    obtain ⟨k, hk, rfl, hy, hz, hp, hbl⟩ := hrel
    have HZ : Hid (Ar wr (w.heap.size + 1) zeros) := hz
    have HY : Hid (Ar wr w.heap.size (addTo ks es k)) := hy
    have HP : Hid (∀ (j x : Nat) (y : Int), j < k → ks[j]? = some x → es[j]? = some y → x + y.toNat ≤ 64) := hp
    clear hz hy hp
    by_cases hlt : k < es.length
    · obtain ⟨g, off, y, rfl, hx1, hx2, hx3, hx4⟩ := (HI.out.kp (Kp.of_below hbl)).at hlt
      have HX : Hid (es[k]? = some y) := hx1
      obtain ⟨hx5, hx6⟩ := HS.out.2 k y hx1
      obtain ⟨x, hx⟩ : ∃ x, ks[k]? = some x := exists_get (by have := HK.out; omega)
      have hx64 := H64.out k x hx
      have HX2 : Hid (ks[k]? = some x) := hx
      have hcell := HY.out.cell (addTo_get hx hlt)
      have hfr := HY.out.frozen k
      have hk512 : k < 512 := by omega
      have hq := HY.out.put hbl (Nat.le_refl _) (k := k) (z := x + y.toNat) (V := (x : Int) + y) (by omega) (addTo_step HX2.out HX.out)
      have HQ : Hid (Ar (wr.setCell ⟨w.heap.size, k, none⟩ (.int .u8 ((x : Int) + y))) w.heap.size (addTo ks es (k + 1)) ∧ Below w.heap.size w (wr.setCell ⟨w.heap.size, k, none⟩ (.int .u8 ((x : Int) + y)))) := hq
      clear hx1 hx hq
      by_cases hgt : (64 : Int) < (x : Int) + y
      · have HZ2 : Hid (Ar (wr.setCell ⟨w.heap.size, k, none⟩ (.int .u8 ((x : Int) + y))) (w.heap.size + 1) zeros) := HZ.out.setOther (by omega)
        have hsz : Try.zeroCells70.size = 512 := Try.zeroCells70_size
        have HF : Hid (raisedK ks es = zeros ∧ raisedE ks es = 2) := by
          have : (addK ks (keyX es)).all (fun n => decide (n ≤ 64)) = false := by
            rw [List.all_eq_false]
            exact ⟨_, List.mem_of_getElem? (addK_get HX2.out (keyX_get HX.out)), by simp; omega⟩
          exact ⟨by simp [raisedK, this], by simp [raisedE, this]⟩
        go_wp2_with (first
          | (refine wpList_store_row rfl _ _ _ rfl (w.heap.size + 1) Try.zeroCells70 rfl rfl _ _ HZ2.out (by rw [info_arr, hsz]) (by rw [arr_size, len_zeros, hsz]) (by rw [zero_cells]; exact arr_one _) ?_))
        refine bodyPost_ret (results_ct_row rfl _ _ (w.heap.size + 1) _ Try.zeroCells70 (0, 0) rfl (setRow_heap _ _ _ _ _ _ HZ2.out) hsz) rfl ?_
        refine ⟨?_, below_setRow HQ.out.2 (by omega)⟩
        rw [HF.out.1, HF.out.2, zero_cells]
        rfl
      · go_wp2
        go_roundw
        case rel =>
          refine ⟨k + 1, by omega, by go_num, HQ.out.1, HZ.out.setOther (by omega), fun j a b hj ha hb => ?_, HQ.out.2⟩
          by_cases hjk : j = k
          · subst hjk
            rw [HX2.out] at ha; rw [HX.out] at hb; cases ha; cases hb; omega
          · exact HP.out j a b (by omega) ha hb
        case measure => simp [intOf]; omega
    · have hke : k = es.length := by omega
      subst hke
      have hy := HY.out
      rw [addTo_full HK.out h512] at hy
      have HY2 : Hid (Ar wr w.heap.size (addK ks (keyX es))) := hy
      have hl2 : (addK ks (keyX es)).length = 512 := by
        have h1 := HK.out
        have h2 := keyX_len h512
        simp [addK, h1, h2]
      have HF : Hid (raisedK ks es = addK ks (keyX es) ∧ raisedE ks es = 0) := by
        have : (addK ks (keyX es)).all (fun n => decide (n ≤ 64)) = true := by
          rw [List.all_eq_true]
          intro z hz
          obtain ⟨j, hj⟩ := List.mem_iff_getElem?.1 hz
          have hj5 : j < 512 := by have := (List.getElem?_eq_some_iff.1 hj).1; omega
          obtain ⟨x, hx⟩ : ∃ x, ks[j]? = some x := exists_get (by have := HK.out; omega)
          by_cases hje : j < es.length
          · obtain ⟨y, hy⟩ : ∃ y, es[j]? = some y := ⟨es[j], List.getElem?_eq_getElem hje⟩
            rw [addK_get hx (keyX_get hy)] at hj
            cases hj
            simpa using HP.out j x y hje hx hy
          · rw [addK_get hx (keyX_high (by omega) hj5)] at hj
            cases hj
            simpa using H64.out j x hx
        exact ⟨by simp [raisedK, this], by simp [raisedE, this]⟩
      clear hy HY
      go_wp2_with (first
        | (refine wpList_load_row rfl _ _ rfl w.heap.size rfl _ _ _ _ HY2.out under_arr rfl (by rw [info_arr, arr_size, hl2]) ?_)
        | (refine wpList_store_row rfl _ _ _ rfl (w.heap.size + 1) (arr (addK ks (keyX es))) rfl rfl _ _ HZ.out (by rw [info_arr, arr_size, hl2]) (by rw [arr_size, arr_size, len_zeros, hl2]) (arr_one _) ?_))
      refine bodyPost_ret (results_ct_row rfl _ _ (w.heap.size + 1) _ (arr (addK ks (keyX es))) (0, 0) rfl (setRow_heap wr _ _ _ _ _ HZ.out) (by rw [arr_size, hl2])) rfl ?_
      refine ⟨?_, below_setRow hbl (by omega)⟩
      rw [HF.out.1, HF.out.2]
      rfl

end Go.Proofs.Ytfifgmcjilkigaa
