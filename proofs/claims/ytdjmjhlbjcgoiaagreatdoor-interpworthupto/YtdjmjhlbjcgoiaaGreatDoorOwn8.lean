/- Texts of the proof, one behind the other. -/
import Derived.Test.YtdjmjhlbjcgoiaaGreatDoorOwn6
import Derived.Test.YtdjmjhlbjcgoiaaGreatDoorOwn7
import Derived.Test.YtdjmjhlbjcgoiaaGreatDoorOwn2
import Derived.Shelf.Small.Bits
import Derived.Ground.NamesProg
/- What multiplying answers, of the program's and of the document's. -/
namespace Go.Proofs.YtdjmjhlbjcgoiaaGreatDoor
open Go.RowKit

set_option maxHeartbeats 1000000 in
theorem product_any (v u : Value) (xs ys : List Nat) (w : World) (h : Sl w v xs) (h' : Sl w u ys) (h64 : xs.length ≤ 64) (h64' : ys.length ≤ 64) :
    Calls Tryz.prog 124 #[v, u] w fun e w' => ∃ v' zs, e = .returned v' ∧ Ow w' w.heap.size v' zs ∧ val zs = val xs * val ys ∧ Below w.heap.size w w' := by
  obtain ⟨ao, cap, rfl, hao, hca, hcl⟩ := h.flat
  obtain ⟨bo, cap', rfl, hbo, hcb, hcl'⟩ := h'.flat
  unfold maxLen at hca hcb
  obtain ⟨i0, hi, hz0, hz1, hz2⟩ := info_parts info_u32
  have HS : Hid (Sl w (.slice ao xs.length cap) xs) := h
  have HS' : Hid (Sl w (.slice bo ys.length cap') ys) := h'
  clear h h' hcl hcl'
  go_enter Tryz.func124, Tryz.ntmps124
  go_wp2_with (first
    | (at_make; refine wpList_make_full _ rfl _ _ 35 rfl w.heap.size 38 i0 (.int .u32 0) 1 under_rowY hi hz0 hz1 .i64 .i64 _ _ (xs.length + ys.length) rfl rfl (by omega) (by omega) (by rw [hz2]; omega) (by unfold maxLen; omega) (Nat.le_refl _) ?_; intro w0 hown0 hgrow0))
  have hb0 : Below w.heap.size w w0 := (Below.refl _ _).grown hgrow0 (Nat.le_refl _) (by intro k hk; cases hk)
  have HO : Hid (Ow w0 w.heap.size (.slice (some ⟨w.heap.size, 0, none⟩) (xs.length + ys.length) (xs.length + ys.length)) (List.replicate (xs.length + ys.length) 0)) := Ow.made hown0
  clear hown0 hgrow0
  go_loopw [17] (fun i wr => ∃ (k : Nat) (Z : List Nat), k ≤ xs.length ∧ i = .int .i64 k ∧ Z.length = xs.length + ys.length ∧ val Z = val (xs.take k) * val ys ∧ (∀ p, k + ys.length ≤ p → p < xs.length + ys.length → Z[p]? = some 0) ∧
      Ow wr w.heap.size (.slice (some ⟨w.heap.size, 0, none⟩) (xs.length + ys.length) (xs.length + ys.length)) Z ∧ Below w.heap.size w wr) (fun i _ => xs.length - (intOf i).toNat)
  case atStart => exact ⟨0, List.replicate (xs.length + ys.length) 0, Nat.zero_le _, rfl, by simp, by simp [val, val_replicate_zero], fun p _ hp => by simp [hp], HO.out, hb0⟩
  case round =>
    obtain ⟨k, Z, hk, rfl, hZ, hval, hzero, hown, hbl⟩ := hrel
    have HV : Hid (val Z = val (xs.take k) * val ys) := hval
    have HZ : Hid (Z.length = xs.length + ys.length) := hZ
    have H0 : Hid (∀ p, k + ys.length ≤ p → p < xs.length + ys.length → Z[p]? = some 0) := hzero
    have HW : Hid (Ow wr w.heap.size (.slice (some ⟨w.heap.size, 0, none⟩) (xs.length + ys.length) (xs.length + ys.length)) Z) := hown
    clear hval hZ hzero hown HO hb0
    by_cases hlt : k < xs.length
    · obtain ⟨ga, offa, x, rfl, hx1, hx2, hx3⟩ := HS.out.flat'.2 k hlt
      have HX : Hid (xs.take (k + 1) = xs.take k ++ [x]) := take_snoc? hx1
      have HLX : Hid ((xs.take k).length = k) := by show _ = _; simp; omega
      have hga : ga < w.heap.size := World.block_lt_of_cell? w _ hx3
      have HXC : Hid (w.cell? ⟨ga, offa + k, none⟩ = some (.int .u32 (x : Int))) := hx3
      clear hx1 hx3
      go_wp2
      go_loopw [7, 22] (fun c i wi => ∃ (j C : Nat) (Y : List Nat), j ≤ ys.length ∧ i = .int .i64 j ∧ c = .int .u64 C ∧ C < 4294967296 ∧ Y.length = xs.length + ys.length ∧
          val Y + 4294967296 ^ (k + j) * C = val (xs.take k) * val ys + 4294967296 ^ k * (x * val (ys.take j)) ∧ (∀ p, k + ys.length ≤ p → p < xs.length + ys.length → Y[p]? = some 0) ∧
          Ow wi w.heap.size (.slice (some ⟨w.heap.size, 0, none⟩) (xs.length + ys.length) (xs.length + ys.length)) Y ∧ Below w.heap.size w wi) (fun _ i _ => ys.length - (intOf i).toNat)
      case atStart => exact ⟨0, 0, Z, Nat.zero_le _, rfl, rfl, by omega, HZ.out, by simp [val, HV.out], H0.out, HW.out, hbl⟩
      case round =>
        obtain ⟨j, C, Y, hj, rfl, rfl, hC, hY, hyv, hyz, hyo, hyb⟩ := hrel
        have GV : Hid (val Y + 4294967296 ^ (k + j) * C = val (xs.take k) * val ys + 4294967296 ^ k * (x * val (ys.take j))) := hyv
        have GZ : Hid (Y.length = xs.length + ys.length) := hY
        have G0 : Hid (∀ p, k + ys.length ≤ p → p < xs.length + ys.length → Y[p]? = some 0) := hyz
        have GW : Hid (Ow wr w.heap.size (.slice (some ⟨w.heap.size, 0, none⟩) (xs.length + ys.length) (xs.length + ys.length)) Y) := hyo
        clear hyv hY hyz hyo
        by_cases hjl : j < ys.length
        · obtain ⟨gb, offb, y, rfl, hy1, hy2, hy3⟩ := (HS'.out.later hyb).flat'.2 j hjl
          obtain ⟨z, hz⟩ := exists_get (xs := Y) (k := k + j) (by rw [GZ.out]; omega)
          have hz32 : z < 4294967296 := GW.out.1.get hz
          obtain ⟨hcell, hfr⟩ := GW.out.at hz
          have hxc := (hyb.cell (p := ⟨ga, offa + k, none⟩) hga).trans HXC.out
          obtain ⟨hxyI, hxy0⟩ := mul_prod_leI hx2 hy2
          have KY : Hid (ys.take (j + 1) = ys.take j ++ [y]) := take_snoc? hy1
          have KL : Hid ((ys.take j).length = j) := by show _ = _; simp; omega
          have KZ : Hid (Y[k + j]? = some z) := hz
          clear hy1 hz
          go_wp2
          go_quiet (fail)
          have hsum : ((C : Int) + ((x : Int) * y + z)) % 4294967296 = (((C + (x * y + z)) % 4294967296 : Nat) : Int) := by rw [Int.natCast_emod]; simp
          have hquo : ((C : Int) + ((x : Int) * y + z)) / 4294967296 = (((C + (x * y + z)) / 4294967296 : Nat) : Int) := by rw [Int.natCast_ediv]; simp
          have hp := (GW.out.drewN nq).put (below_drewN hyb nq) (Nat.le_refl _) GZ.out.symm (k := k + j) (z := (C + (x * y + z)) % 4294967296) hsum (by omega) rfl
          have HP : Hid (Ow ((wr.drewN nq).setCell ⟨w.heap.size, k + j, none⟩ (.int .u32 (((C : Int) + ((x : Int) * y + z)) % 4294967296))) w.heap.size (.slice (some ⟨w.heap.size, 0, none⟩) (xs.length + ys.length) (xs.length + ys.length)) (Y.set (k + j) ((C + (x * y + z)) % 4294967296)) ∧ Below w.heap.size w ((wr.drewN nq).setCell ⟨w.heap.size, k + j, none⟩ (.int .u32 (((C : Int) + ((x : Int) * y + z)) % 4294967296)))) := hp
          have HQ : Hid (((C : Int) + ((x : Int) * y + z)) / 4294967296 = (((C + (x * y + z)) / 4294967296 : Nat) : Int)) := hquo
          clear hp hquo hsum
          go_wp2
          go_roundw
          case rel =>
            refine ⟨j + 1, (C + (x * y + z)) / 4294967296, _, by omega, by go_num, by rw [HQ.out], ?_, by rw [List.length_set]; exact GZ.out, ?_, ?_, HP.out.1, HP.out.2⟩
            · have hxyN := mul_prod_le hx2 hy2
              omega
            · rw [KY.out, val_snoc, KL.out]
              exact mul_step KZ.out GV.out
            · intro p hp1 hp2
              rw [List.getElem?_set_ne (by omega)]
              exact G0.out p hp1 hp2
          case measure => simp [intOf]; omega
        · have hjm : j = ys.length := by omega
          subst hjm
          have hz := G0.out (k + ys.length) (Nat.le_refl _) (by omega)
          obtain ⟨hcell, hfr⟩ := GW.out.at hz
          have hp := GW.out.put hyb (Nat.le_refl _) GZ.out.symm (k := k + ys.length) (z := C) (V := (C : Int)) rfl hC rfl
          have HP : Hid (Ow (wr.setCell ⟨w.heap.size, k + ys.length, none⟩ (.int .u32 (C : Int))) w.heap.size (.slice (some ⟨w.heap.size, 0, none⟩) (xs.length + ys.length) (xs.length + ys.length)) (Y.set (k + ys.length) C) ∧ Below w.heap.size w (wr.setCell ⟨w.heap.size, k + ys.length, none⟩ (.int .u32 (C : Int)))) := hp
          have KZ : Hid (Y[k + ys.length]? = some 0) := hz
          clear hp hz
          go_wp2
          go_roundw
          case rel =>
            refine ⟨k + 1, _, by omega, by go_num, by rw [List.length_set]; exact GZ.out, ?_, ?_, HP.out.1, HP.out.2⟩
            · have hv := GV.out
              rw [List.take_length] at hv
              exact mul_last KZ.out hv (by rw [HX.out, val_snoc, HLX.out])
            · intro p hp1 hp2
              rw [List.getElem?_set_ne (by omega)]
              exact G0.out p (by omega) hp2
          case measure => simp [intOf]; omega
    · have hk' : k = xs.length := by omega
      subst hk'
      go_wp2
      go_ret
      refine ⟨_, Z, rfl, HW.out, ?_, hbl⟩
      have := HV.out
      rw [List.take_length] at this
      exact this

set_option maxHeartbeats 400000 in
theorem mul_any (v u : Value) (xs ys : List Nat) (w : World) (h : Sl w v xs) (h' : Sl w u ys) :
    Calls Tryz.prog 70 #[v, u] w fun e w' => ∃ v', e = .returned (.tuple #[v', .int .i64 (mulE xs ys)]) ∧ Ow w' w.heap.size v' (mulL xs ys) ∧ Below w.heap.size w w' := by
  go_enter Tryz.func70, Tryz.ntmps70
  go_wp2_with fail
  refine (right_any v xs _ h).mono ?_
  rintro e w1 ⟨rfl, rfl⟩
  cases hr : rightB xs
  · go_wp2
    go_ret2
    exact ⟨_, ret2i (by simp [mulE, hr]), by simp [mulL, hr]; exact Ow.nil _ _, Below.refl _ _⟩
  go_wp2_with fail
  refine (right_any u ys _ h').mono ?_
  rintro e w1 ⟨rfl, rfl⟩
  cases hr' : rightB ys
  · go_wp2
    go_ret2
    exact ⟨_, ret2i (by simp [mulE, hr']), by simp [mulL, hr']; exact Ow.nil _ _, Below.refl _ _⟩
  go_wp2_with fail
  refine (product_any v u xs ys _ h h' (length_le_of_right hr) (length_le_of_right hr')).mono ?_
  rintro e w2 ⟨v2, zs, rfl, ho, hv, hb⟩
  have HV : Hid (val zs = val xs * val ys) := hv
  clear hv
  go_wp2_with fail
  refine (inBounds_any v2 zs _ _ ho).mono ?_
  rintro e w3 ⟨v3, rfl, ho3, rfl⟩
  rw [HV.out] at ho3 ⊢
  go_wp2
  go_ret2
  exact ⟨_, ret2i (by simp [mulE, hr, hr']), by simp only [mulL, hr, hr', Bool.and_self, if_true]; exact ho3, hb⟩

end Go.Proofs.YtdjmjhlbjcgoiaaGreatDoor

/- What product answers. -/
namespace Go.Proofs.YtdjmjhlbjcgoiaaGreatDoor
open Go.RowKit Go.Maps

/-- A monomial times monomials, put one after the other. -/
def prodIn (m : Mn) : LkY → List Mn → LkY × Int
  | L, [] => (L, 0)
  | L, n :: r =>
    if raisedE (keyX m.2) n.2 = 0 then
      if mulE m.1 n.1 = 0 then
        if putE L (raisedK (keyX m.2) n.2) (mulL m.1 n.1) = 0 then prodIn m (putL L (raisedK (keyX m.2) n.2) (mulL m.1 n.1)) r
        else (putL L (raisedK (keyX m.2) n.2) (mulL m.1 n.1), putE L (raisedK (keyX m.2) n.2) (mulL m.1 n.1))
      else (L, mulE m.1 n.1)
    else (L, raisedE (keyX m.2) n.2)

def prods (q : List Mn) : LkY → List Mn → LkY × Int
  | L, [] => (L, 0)
  | L, m :: r => if (prodIn m L q).2 = 0 then prods q (prodIn m L q).1 r else prodIn m L q

def prodE (p q : List Mn) : Int := (prods q [] p).2

def prodL (p q : List Mn) : List Mn := if prodE p q = 0 then rowLY (prods q [] p).1 else []

theorem keyX_le {es : List Int} (h : Small es) : ∀ (j x : Nat), (keyX es)[j]? = some x → x ≤ 64 := by
  intro j x hx
  by_cases hj : j < es.length
  · obtain ⟨y, hy⟩ : ∃ y, es[j]? = some y := ⟨es[j], List.getElem?_eq_getElem hj⟩
    rw [keyX_get hy] at hx
    cases hx
    have := h.2 j y hy
    omega
  · have hl := keyX_len h.1
    have := (List.getElem?_eq_some_iff.1 hx).1
    rw [keyX_high (by omega) (by omega)] at hx
    cases hx
    omega

theorem wfK_raised {ks : List Nat} {es : List Int} (hk : ks.length = 512) (hs : Small es) (h0 : raisedE ks es = 0) : WfK (raisedK ks es) := by
  have ha : (addK ks (keyX es)).all (fun n => decide (n ≤ 64)) = true := by
    unfold raisedE at h0
    split at h0
    · assumption
    · omega
  unfold raisedK
  rw [if_pos ha]
  have hl := keyX_len hs.1
  refine ⟨by simp [addK, hk, hl], fun j x hx => ?_⟩
  rw [List.all_eq_true] at ha
  have := ha x (List.mem_of_getElem? hx)
  simp at this
  omega

theorem len_raised {ks : List Nat} {es : List Int} (hk : ks.length = 512) (hs : Small es) : (raisedK ks es).length = 512 := by
  unfold raisedK
  have hl := keyX_len hs.1
  split
  · simp [addK, hk, hl]
  · exact len_zeros

set_option maxRecDepth 100000 in
set_option maxHeartbeats 3200000 in
theorem pprod_any (v u : Value) (p q : List Mn) (w : World) (h : Ms w v p) (h' : Ms w u q) (hs : ∀ (k : Nat) (m : Mn), p[k]? = some m → Small m.2) (hs' : ∀ (k : Nat) (m : Mn), q[k]? = some m → Small m.2) :
    Calls Tryz.prog 65 #[v, u] w fun e w' => ∃ v', e = .returned (.tuple #[v', .int .i64 (prodE p q)]) ∧ OM w' w.heap.size v' (prodL p q) ∧ Below w.heap.size w w' := by
  obtain ⟨ao, cap, rfl, hao, hca, q0⟩ := Row.flat h
  obtain ⟨bo, cap', rfl, hbo, hcb, q0'⟩ := Row.flat h'
  unfold maxLen at hca hcb
  have hmm := @run_makeMap Tryz.prog
  have H0 : Hid (MapOk (w.alloc (.map #[] 0)) w.heap.size w.heap.size []) := MapOk.made w _
  have HP : Hid (Ms w (.slice ao p.length cap) p) := h
  have HQ : Hid (Ms w (.slice bo q.length cap') q) := h'
  have HS : Hid (∀ (k : Nat) (m : Mn), p[k]? = some m → Small m.2) := hs
  have HS' : Hid (∀ (k : Nat) (m : Mn), q[k]? = some m → Small m.2) := hs'
  have hzs2 : Tryz.zeroCells160.size = 512 := Tryz.zeroCells160_size
  clear h h' hs hs' q0 q0'
  go_enter Tryz.func65, Tryz.ntmps65
  go_wp2
  clear hmm
  go_loopw [18] (fun i wr => ∃ (k : Nat) (M : LkY), k ≤ p.length ∧ i = .int .i64 k ∧ prods q [] p = prods q M (p.drop k) ∧ M.length ≤ 256 ∧ MapOk wr w.heap.size w.heap.size M ∧ Below w.heap.size w wr) (fun i _ => p.length - (intOf i).toNat)
  case atStart => exact ⟨0, [], by omega, rfl, rfl, by simp, H0.out, below_alloc _⟩
  case round =>
    obtain ⟨k, M0, hk, rfl, hpu, hM6, hmo, hbl⟩ := hrel
    have HPr : Hid (prods q [] p = prods q M0 (p.drop k)) := hpu
    have HMo : Hid (MapOk wr w.heap.size w.heap.size M0) := hmo
    have HBl : Hid (Below w.heap.size w wr) := hbl
    clear hpu hmo hbl H0
    by_cases hlt : k < p.length
    · obtain ⟨g, off, c, es, a1, c1, a2, c2, rfl, hm1, hc0, hc1, hmm, hl1, hl2, hl3, hl4⟩ := (HP.out.kp (Kp.of_below HBl.out)).at hlt
      have HX : Hid (p[k]? = some (c, es)) := hm1
      have HSm : Hid (Small es) := HS.out k _ hm1
      have hbx := below_alloc (w := wr) (.cells #[.slice a1 c.length c1, .slice a2 es.length c2] 37)
      have HMm : Hid (Mo (wr.alloc (.cells #[.slice a1 c.length c1, .slice a2 es.length c2] 37)) (.slice a1 c.length c1) (.slice a2 es.length c2) (c, es)) := hmm.kp (Kp.of_below hbx)
      clear hm1 hmm hbx
      go_wp2_with fail
      refine (packed_any _ es _ HMm.out.2 HSm.out).mono ?_
      rintro e w1 ⟨rfl, hb1⟩
      obtain ⟨hd0, hd1, hb01⟩ := box2Y hb1
      have hk512 := keyX_len HSm.out.1
      have hbin : Below w1.heap.size w1 ((w1.alloc (.cells Tryz.zeroCells160 160)).setRow w1.heap.size (arr (keyX es))) := below_setRowY (below_alloc _) (Nat.le_refl _)
      go_wp2_with (first
        | (refine wpList_store_row rfl _ _ _ rfl w1.heap.size (arr (keyX es)) rfl rfl _ _ (heap_alloc_new w1 _) (by rw [info_arr, arr_size, hk512]) (by rw [arr_size, hk512, hzs2]) (arr_one _) ?_))
      obtain ⟨wi, hwi⟩ : ∃ wi, wi = (w1.alloc (.cells Tryz.zeroCells160 160)).setRow w1.heap.size (arr (keyX es)) := ⟨_, rfl⟩
      have HAi : Hid (Ar wi w1.heap.size (keyX es)) := by rw [hwi]; exact setRow_heap _ _ _ _ _ _ (heap_alloc_new w1 _)
      rw [← hwi] at hbin ⊢
      clear hwi
      have hbi : Below wr.heap.size wr wi := below_step hb01 hbin
      have HBi : Hid (Below w.heap.size w wi) := below_step HBl.out hbi
      have HMi : Hid (MapOk wi w.heap.size w.heap.size M0) := HMo.out.later hbi
      have hi0 := (Kp.of_below hbin).cell _ _ hd0
      have HSl : Hid (Sl wi (.slice a1 c.length c1) c) := (HMm.out.1.kp (Kp.of_below hb1)).kp (Kp.of_below hbin)
      obtain ⟨esm, clm, hmapi⟩ := HMi.out.isMap
      have HMapi : Hid (wi.heap[w.heap.size]? = some (.map esm clm)) := hmapi
      have hbne : w1.heap.size ≠ w.heap.size := by have := HMo.out.lt; have := hb01.size; omega
      clear hb1 hd0 hd1 hb01 hbin hbi hmapi
      go_wp2
      obtain ⟨G8, hG8⟩ : ∃ G8, G8 = wr.heap.size := ⟨_, rfl⟩
      rw [← hG8] at hi0 ⊢
      clear hG8
      have HFin : Hid (∀ E : Int, ¬ E = 0 → (prodIn (c, es) M0 q).2 = E → prodE p q = E ∧ prodL p q = []) := by
        intro E hE0 hE
        have h1 : prodE p q = E := by
          unfold prodE
          rw [HPr.out, drop_getY HX.out, prods, if_neg (by rw [hE]; exact hE0), hE]
        exact ⟨h1, by unfold prodL; rw [h1, if_neg hE0]⟩
      go_loopw [27] (fun i ws => ∃ (l : Nat) (M : LkY), l ≤ q.length ∧ i = .int .i64 l ∧ prodIn (c, es) M0 q = prodIn (c, es) M (q.drop l) ∧ M.length ≤ 256 ∧ MapOk ws w.heap.size w.heap.size M ∧ wi.grownBy ws (some w.heap.size)) (fun i _ => q.length - (intOf i).toNat)
      case atStart => exact ⟨0, M0, by omega, rfl, rfl, hM6, HMi.out, World.grownBy.refl _ _⟩
      case round =>
        obtain ⟨l, M, hl, rfl, hpi, hM, hmo, hgr⟩ := hrel
        have HPi : Hid (prodIn (c, es) M0 q = prodIn (c, es) M (q.drop l)) := hpi
        have HMs : Hid (MapOk wr w.heap.size w.heap.size M) := hmo
        have HGr : Hid (wi.grownBy wr (some w.heap.size)) := hgr
        have HKp : Hid (Kp wi wr) := Kp.of_map hgr HMapi.out
        have HAr : Hid (Ar wr w1.heap.size (keyX es)) := (hgr.block _ HAi.out.lt (by simpa using hbne)).trans HAi.out
        have HBr : Hid (Below w.heap.size w wr) := HBi.out.grown hgr HBi.out.size (fun k hk => by cases hk; exact Nat.le_refl _)
        clear hpi hmo hgr
        by_cases hll : l < q.length
        · obtain ⟨g', off', d, fs, b1, d1, b2, d2, rfl, hn1, he0, he1, hmn, hj1, hj2, hj3, hj4⟩ := (HQ.out.kp (Kp.of_below HBr.out)).at hll
          have HY : Hid (q[l]? = some (d, fs)) := hn1
          have HSn : Hid (Small fs) := HS'.out l _ hn1
          have hba := below_alloc (w := wr) (.cells #[.slice b1 d.length d1, .slice b2 fs.length d2] 37)
          have HMn : Hid (Mo (wr.alloc (.cells #[.slice b1 d.length d1, .slice b2 fs.length d2] 37)) (.slice b1 d.length d1) (.slice b2 fs.length d2) (d, fs)) := hmn.kp (Kp.of_below hba)
          have HAa : Hid (Ar (wr.alloc (.cells #[.slice b1 d.length d1, .slice b2 fs.length d2] 37)) w1.heap.size (keyX es)) := HAr.out.later hba
          clear hn1 hmn hba
          go_wp2_with (first
            | (refine wpList_load_row rfl _ _ rfl w1.heap.size rfl _ _ _ _ HAa.out under_arr rfl (by rw [info_arr, arr_size, hk512]) ?_))
          refine (raised_any _ (keyX es) fs _ HMn.out.2 HSn.out hk512 (keyX_le HSm.out)).mono ?_
          rintro e w2 ⟨rfl, hb2⟩
          obtain ⟨hf0, hf1, hb02⟩ := box2Y hb2
          have hr512 := len_raised hk512 HSn.out
          obtain ⟨K1, hK1⟩ : ∃ K1, K1 = raisedK (keyX es) fs := ⟨_, rfl⟩
          obtain ⟨E1, hE1⟩ : ∃ E1, E1 = raisedE (keyX es) fs := ⟨_, rfl⟩
          rw [← hK1] at hr512 ⊢
          rw [← hE1]
          have HK1 : Hid (K1 = raisedK (keyX es) fs) := hK1
          have HE1 : Hid (E1 = raisedE (keyX es) fs) := hE1
          clear hK1 hE1
          have hb3 : Below w2.heap.size w2 ((w2.alloc (.cells Tryz.zeroCells160 160)).setRow w2.heap.size (arr K1)) := below_setRowY (below_alloc _) (Nat.le_refl _)
          have hb03 := below_step hb02 hb3
          have HB3 : Hid (Below wr.heap.size wr ((w2.alloc (.cells Tryz.zeroCells160 160)).setRow w2.heap.size (arr K1))) := hb03
          by_cases h1 : E1 = 0
          · subst h1
            have hx8 := (Kp.of_below hb03).cell _ _ (HKp.out.cell _ _ hi0)
            have hx11 := (Kp.of_below hb3).cell _ _ hf0
            have HS1 : Hid (Sl ((w2.alloc (.cells Tryz.zeroCells160 160)).setRow w2.heap.size (arr K1)) (.slice a1 c.length c1) c) := (HSl.out.kp HKp.out).kp (Kp.of_below hb03)
            have HS2 : Hid (Sl ((w2.alloc (.cells Tryz.zeroCells160 160)).setRow w2.heap.size (arr K1)) (.slice b1 d.length d1) d) := (HMn.out.1.kp (Kp.of_below hb2)).kp (Kp.of_below hb3)
            have HA3 : Hid (Ar ((w2.alloc (.cells Tryz.zeroCells160 160)).setRow w2.heap.size (arr K1)) w2.heap.size K1) := setRow_heap _ _ _ _ _ _ (heap_alloc_new w2 _)
            clear hb2 hf0 hf1 hb02 hb3 hb03 he0 he1
            go_wp2_with (first
              | (refine wpList_store_row rfl _ _ _ rfl w2.heap.size (arr K1) rfl rfl _ _ (heap_alloc_new w2 _) (by rw [info_arr, arr_size, hr512]) (by rw [arr_size, hr512, hzs2]) (arr_one _) ?_))
            refine (mul_any _ _ c d _ HS1.out HS2.out).mono ?_
            rintro e w4 ⟨v4, rfl, ho4, hb4⟩
            have HS4 : Hid (Sl w4 v4 (mulL c d)) := ho4.sl
            have HA4 : Hid (Ar w4 w2.heap.size K1) := HA3.out.later hb4
            have hb04 := below_step HB3.out hb4
            have HM4 : Hid (MapOk w4 w.heap.size w.heap.size M) := HMs.out.later hb04
            have HB4 : Hid (Below wr.heap.size wr w4) := hb04
            obtain ⟨E2, hE2⟩ : ∃ E2, E2 = mulE c d := ⟨_, rfl⟩
            rw [← hE2]
            have HE2 : Hid (E2 = mulE c d) := hE2
            clear hE2 ho4 hb4 hb04 hx8 hx11 HS1 HS2 HA3
            by_cases h2 : E2 = 0
            · subst h2
              go_wp2_with (first
                | (refine wpList_load_row rfl _ _ rfl w2.heap.size rfl _ _ _ _ HA4.out under_arr rfl (by rw [info_arr, arr_size, hr512]) ?_))
              refine (put_any w.heap.size w.heap.size M K1 (mulL c d) v4 _ HM4.out (by rw [HK1.out]; exact wfK_raised hk512 HSn.out HE1.out.symm) HS4.out hM (Nat.le_trans HBr.out.size HB4.out.size)).mono ?_
              rintro e w5 ⟨rfl, hm5, hg5⟩
              have HM5 : Hid (MapOk w5 w.heap.size w.heap.size (putL M K1 (mulL c d))) := hm5
              have HG5 : Hid (wi.grownBy w5 (some w.heap.size)) := grown_trans (grown_trans HGr.out (grown_of_below HB4.out _)) hg5
              obtain ⟨E3, hE3⟩ : ∃ E3, E3 = putE M K1 (mulL c d) := ⟨_, rfl⟩
              rw [← hE3]
              have HE3 : Hid (E3 = putE M K1 (mulL c d)) := hE3
              clear hE3 hm5 hg5
              by_cases h3 : E3 = 0
              · subst h3
                go_wp2
                go_roundw
                case rel =>
                  refine ⟨l + 1, putL M K1 (mulL c d), by omega, by go_num, ?_, len_putL HE3.out.symm hM, HM5.out, HG5.out⟩
                  rw [HPi.out, drop_getY HY.out, prodIn, if_pos HE1.out.symm, if_pos HE2.out.symm]
                  rw [← HK1.out, if_pos HE3.out.symm]
                case measure => simp [intOf]; omega
              · have hb0 : (E3 != 0) = true := by rw [bne_iff_ne]; exact h3
                have hfin := HFin.out E3 h3 (by rw [HPi.out, drop_getY HY.out, prodIn, if_pos HE1.out.symm, if_pos HE2.out.symm]; rw [← HK1.out, if_neg (by rw [← HE3.out]; exact h3), ← HE3.out])
                have HFi : Hid (prodE p q = E3 ∧ prodL p q = []) := hfin
                have HB5 : Hid (Below w.heap.size w w5) := HBi.out.grown HG5.out HBi.out.size (fun k hk => by cases hk; exact Nat.le_refl _)
                clear hfin
                go_wp2
                go_ret2
                exact ⟨_, ret2i HFi.out.1.symm, by rw [HFi.out.2]; exact OM.nil _ _, HB5.out⟩
            · have hb0 : (E2 != 0) = true := by rw [bne_iff_ne]; exact h2
              have hb1 : (E2 == 0) = false := by rw [beq_eq_false_iff_ne]; exact h2
              have hfin := HFin.out E2 h2 (by rw [HPi.out, drop_getY HY.out, prodIn, if_pos HE1.out.symm, if_neg (by show ¬ mulE c d = 0; rw [← HE2.out]; exact h2)]; exact HE2.out.symm)
              have HFi : Hid (prodE p q = E2 ∧ prodL p q = []) := hfin
              have HB5 : Hid (Below w.heap.size w w4) := below_step HBr.out HB4.out
              clear hfin
              go_wp2
              go_ret2
              exact ⟨_, ret2i HFi.out.1.symm, by rw [HFi.out.2]; exact OM.nil _ _, HB5.out⟩
          · have hb0 : (E1 != 0) = true := by rw [bne_iff_ne]; exact h1
            have hfin := HFin.out E1 h1 (by rw [HPi.out, drop_getY HY.out, prodIn, if_neg (by show ¬ raisedE (keyX es) fs = 0; rw [← HE1.out]; exact h1)]; exact HE1.out.symm)
            have HFi : Hid (prodE p q = E1 ∧ prodL p q = []) := hfin
            have HB5 : Hid (Below w.heap.size w ((w2.alloc (.cells Tryz.zeroCells160 160)).setRow w2.heap.size (arr K1))) := below_step HBr.out HB3.out
            clear hfin hb2 hf0 hf1 hb02 hb3 hb03 he0 he1
            go_wp2_with (first
              | (refine wpList_store_row rfl _ _ _ rfl w2.heap.size (arr K1) rfl rfl _ _ (heap_alloc_new w2 _) (by rw [info_arr, arr_size, hr512]) (by rw [arr_size, hr512, hzs2]) (arr_one _) ?_))
            go_ret2
            exact ⟨_, ret2i HFi.out.1.symm, by rw [HFi.out.2]; exact OM.nil _ _, HB5.out⟩
        · have hle : l = q.length := by omega
          subst hle
          have hpr : prodIn (c, es) M0 q = (M, 0) := by rw [HPi.out, List.drop_of_length_le (Nat.le_refl _)]; rfl
          have HPq : Hid (prodIn (c, es) M0 q = (M, 0)) := hpr
          clear hpr
          go_wp2
          go_roundw
          case rel =>
            refine ⟨k + 1, M, by omega, by go_num, ?_, hM, HMs.out, HBr.out⟩
            rw [HPr.out, drop_getY HX.out, prods, HPq.out, if_pos rfl]
          case measure => simp [intOf]; omega
    · have hke : k = p.length := by omega
      subst hke
      have HF : Hid (prods q [] p = (M0, 0)) := by
        show prods q [] p = _
        rw [HPr.out, List.drop_of_length_le (Nat.le_refl _)]; rfl
      go_wp2_with fail
      refine (row_any w.heap.size w.heap.size M0 _ HMo.out (by omega) HBl.out.size).mono ?_
      rintro e w3 ⟨v3, rfl, ho3, hb3⟩
      have hs0 : prodE p q = 0 := by unfold prodE; rw [HF.out]
      have HS0 : Hid (prodE p q = 0) := hs0
      have HO3 : Hid (OM w3 w.heap.size v3 (prodL p q)) := by
        show OM _ _ _ _
        unfold prodL
        rw [if_pos hs0, HF.out]
        exact ho3
      have HB3 : Hid (Below w.heap.size w w3) := below_step HBl.out hb3
      clear ho3 hb3 hs0
      go_wp2
      go_ret2
      exact ⟨_, ret2i HS0.out.symm, HO3.out, HB3.out⟩

end Go.Proofs.YtdjmjhlbjcgoiaaGreatDoor

/- What comparing answers, of the program's and of the document's. -/
namespace Go.Proofs.YtdjmjhlbjcgoiaaGreatDoor
open Go.RowKit

set_option maxHeartbeats 400000 in
theorem order_any (v u : Value) (xs ys : List Nat) (w : World) (h : Sl w v xs) (h' : Sl w u ys) (hn : limbs (val xs) = xs) (hn' : limbs (val ys) = ys) :
    Calls Tryz.prog 83 #[v, u] w fun e w' => e = .returned (.int .i64 (cmpI (val xs) (val ys))) ∧ ∃ n, w' = w.drewN n := by
  obtain ⟨ao, cap, rfl, hao, hca, hcl⟩ := h.flat
  obtain ⟨bo, cap', rfl, hbo, hcb, hcl'⟩ := h'.flat
  unfold maxLen at hca hcb
  have HL : Hid (Lim xs) := h.1
  have HL' : Hid (Lim ys) := h'.1
  have HN : Hid (limbs (val xs) = xs) := hn
  have HN' : Hid (limbs (val ys) = ys) := hn'
  clear h h' hn hn'
  by_cases hl1 : xs.length < ys.length
  · go_enter Tryz.func83, Tryz.ntmps83
    go_wp2
    go_ret
    exact ⟨ret1i (cmpI_lt (val_lt_of_length HN.out HN'.out hl1)).symm, 0, rfl⟩
  by_cases hl2 : ys.length < xs.length
  · go_enter Tryz.func83, Tryz.ntmps83
    go_wp2
    go_ret
    exact ⟨ret1i (cmpI_gt (val_lt_of_length HN'.out HN.out hl2)).symm, 0, rfl⟩
  go_enter Tryz.func83, Tryz.ntmps83
  go_wp2
  go_loopw [5] (fun i wr => ∃ k : Nat, k ≤ xs.length ∧ i = .int .i64 ((k : Int) - 1) ∧ xs.drop k = ys.drop k ∧ ∃ n, wr = w.drewN n) (fun i _ => (intOf i + 1).toNat)
  case atStart => exact ⟨xs.length, Nat.le_refl _, rfl, by rw [List.drop_of_length_le (Nat.le_refl _), List.drop_of_length_le (by omega)], 0, rfl⟩
  case round =>
    obtain ⟨k, hk, rfl, ht, n, rfl⟩ := hrel
    have HT : Hid (xs.drop k = ys.drop k) := ht
    clear ht
    by_cases hk0 : k = 0
    · subst hk0
      go_wp2
      go_ret
      have := HT.out
      simp only [List.drop_zero] at this
      subst this
      exact ⟨ret1i (cmpI_eq _).symm, n, rfl⟩
    · obtain ⟨j, rfl⟩ : ∃ j, k = j + 1 := ⟨k - 1, by omega⟩
      rw [show ((j + 1 : Nat) : Int) - 1 = (j : Int) by omega]
      obtain ⟨g, off, x, rfl, hx1, hx2, hx3⟩ := hcl j (by omega)
      obtain ⟨g', off', y, rfl, hy1, hy2, hy3⟩ := hcl' j (by omega)
      have HX : Hid (xs[j]? = some x) := hx1
      have HY : Hid (ys[j]? = some y) := hy1
      have hlt : j < xs.length := by omega
      have hlt' : j < ys.length := by omega
      clear hx1 hy1 hcl hcl'
      by_cases h1 : x < y
      · go_wp2
        go_quiet (fail)
        go_wp2
        go_ret
        exact ⟨ret1i (cmpI_lt (val_lt_at HL.out HX.out HY.out HT.out h1)).symm, _, World.drewN_drewN _ _ _⟩
      by_cases h2 : y < x
      · go_wp2
        go_quiet (fail)
        go_wp2
        go_quiet (fail)
        go_wp2
        go_ret
        exact ⟨ret1i (cmpI_gt (val_lt_at HL'.out HY.out HX.out HT.out.symm h2)).symm, _, by simp only [World.drewN_drewN]; rfl⟩
      have hxy : x = y := by omega
      subst hxy
      go_wp2
      go_quiet (fail)
      go_wp2
      go_quiet (fail)
      go_wp2
      go_roundw
      case rel => exact ⟨j, by omega, rfl, by rw [drop_cons? HX.out, drop_cons? HY.out, HT.out], _, rfl⟩
      case measure => simp [intOf]

set_option maxHeartbeats 400000 in
theorem cmp_any (v u : Value) (xs ys : List Nat) (w : World) (h : Sl w v xs) (h' : Sl w u ys) :
    Calls Tryz.prog 35 #[v, u] w fun e w' => e = .returned (.tuple #[.int .i64 (cmpV xs ys), .int .i64 (cmpE xs ys)]) ∧ ∃ n, w' = w.drewN n := by
  go_enter Tryz.func35, Tryz.ntmps35
  go_wp2_with fail
  refine (right_any v xs _ h).mono ?_
  rintro e w1 ⟨rfl, rfl⟩
  cases hr : rightB xs
  · go_wp2
    go_ret2
    exact ⟨by simp [cmpV, cmpE, hr], 0, rfl⟩
  · go_wp2_with fail
    refine (right_any u ys _ h').mono ?_
    rintro e w1 ⟨rfl, rfl⟩
    cases hr' : rightB ys
    · go_wp2
      go_ret2
      exact ⟨by simp [cmpV, cmpE, hr'], 0, rfl⟩
    · go_wp2_with fail
      refine (order_any v u xs ys _ h h' (limbs_val_of_right h.1 hr) (limbs_val_of_right h'.1 hr')).mono ?_
      rintro e w1 ⟨rfl, n, rfl⟩
      go_wp2
      go_ret2
      exact ⟨by simp [cmpV, cmpE, hr, hr'], n, rfl⟩

end Go.Proofs.YtdjmjhlbjcgoiaaGreatDoor

/- What Add and Mul answer; and some small calls. -/
namespace Go.Proofs.YtdjmjhlbjcgoiaaGreatDoor
open Go.RowKit Go.Maps

theorem small_of_check {p : List Mn} {vars : Int} (h : checkE p vars = 0) : ∀ (k : Nat) (m : Mn), p[k]? = some m → Small m.2 := by
  intro k m hk
  unfold checkE at h
  split at h
  · omega
  split at h
  · omega
  rename_i hp
  split at h
  · omega
  rename_i hb
  have hk2 := (List.getElem?_eq_some_iff.1 hk).1
  have hp' : polyB p vars = true := by simpa using hp
  have hb' : boundsB p = true := by simpa using hb
  have h1 := polyB_iff.1 hp' k hk2
  unfold okAt at h1
  rw [hk] at h1
  simp only [Bool.and_eq_true] at h1
  have hm := h1.1.1
  unfold monB at hm
  simp only [Bool.and_eq_true, List.all_eq_true, decide_eq_true_eq] at hm
  unfold boundsB at hb'
  simp only [Bool.and_eq_true, List.all_eq_true, decide_eq_true_eq] at hb'
  have hs := hb'.2 m (List.mem_of_getElem? hk)
  unfold smallB at hs
  simp only [Bool.and_eq_true, List.all_eq_true, decide_eq_true_eq] at hs
  exact ⟨hs.1, fun j x hj => ⟨hm.1.2 x (List.mem_of_getElem? hj), hs.2 x (List.mem_of_getElem? hj)⟩⟩

/-- Two rows of monomials as a row of rows. -/
theorem ps2 {w : World} {v u : Value} {p q : List Mn} (h : Ms w v p) (h' : Ms w u q) : Ps (w.alloc (.cells #[v, u] 31)) (.slice (some ⟨w.heap.size, 0, none⟩) 2 2) [p, q] := by
  have hk := Kp.of_below (below_alloc (w := w) (.cells #[v, u] 31))
  refine ⟨_, 2, rfl, by simp, by simp [maxLen], fun _ => ⟨w.heap.size, 0, rfl, by simp, ?_⟩⟩
  intro k x hk2
  have hlt := (List.getElem?_eq_some_iff.1 hk2).1
  match k, hlt with
  | 0, _ =>
    simp only [List.getElem?_cons_zero, Option.some.injEq] at hk2
    subst hk2
    exact ⟨v, by simp, h.kp hk⟩
  | 1, _ =>
    simp only [List.getElem?_cons_succ, List.getElem?_cons_zero, Option.some.injEq] at hk2
    subst hk2
    exact ⟨u, by simp, h'.kp hk⟩

theorem ps1 {w : World} {v : Value} {p : List Mn} (h : Ms w v p) : Ps (w.alloc (.cells #[v] 31)) (.slice (some ⟨w.heap.size, 0, none⟩) 1 1) [p] := by
  have hk := Kp.of_below (below_alloc (w := w) (.cells #[v] 31))
  refine ⟨_, 1, rfl, by simp, by simp [maxLen], fun _ => ⟨w.heap.size, 0, rfl, by simp, ?_⟩⟩
  intro k x hk2
  have hlt := (List.getElem?_eq_some_iff.1 hk2).1
  match k, hlt with
  | 0, _ =>
    simp only [List.getElem?_cons_zero, Option.some.injEq] at hk2
    subst hk2
    exact ⟨v, by simp, h.kp hk⟩

def addPE (p q : List Mn) : Int := if checkAllE [p, q] = 0 then sumE p q else checkAllE [p, q]

def addPL (p q : List Mn) : List Mn := if checkAllE [p, q] = 0 then sumL p q else []

def mulPE (p q : List Mn) : Int := if checkAllE [p, q] = 0 then prodE p q else checkAllE [p, q]

def mulPL (p q : List Mn) : List Mn := if checkAllE [p, q] = 0 then prodL p q else []

/-- How many variables are named. -/
def varsN (p : List Mn) : Nat := p.foldl (fun a m => max a m.2.length) 0

theorem varsN_step {p : List Mn} {k : Nat} {m : Mn} (h : p[k]? = some m) : varsN (p.take (k + 1)) = max (varsN (p.take k)) m.2.length := by
  rw [take_getY h]; simp [varsN]

theorem varsN_le {p : List Mn} {B : Nat} (h : ∀ (k : Nat) (m : Mn), p[k]? = some m → m.2.length ≤ B) : ∀ k, varsN (p.take k) ≤ B := by
  intro k
  induction k with
  | zero => simp [varsN]
  | succ k ih =>
    cases hk : p[k]? with
    | none => rw [List.take_add_one, hk]; simpa using ih
    | some m => rw [varsN_step hk]; have := h k m hk; omega

set_option maxRecDepth 100000 in
theorem variables_any (v : Value) (p : List Mn) (w : World) (h : Ms w v p) :
    Calls Tryz.prog 63 #[v] w fun e w' => e = .returned (.int .i64 (varsN p : Nat)) ∧ Below w.heap.size w w' := by
  obtain ⟨ao, cap, rfl, hao, hca, q0⟩ := Row.flat h
  unfold maxLen at hca
  have HM : Hid (Ms w (.slice ao p.length cap) p) := h
  have HV : Hid (∀ k, varsN (p.take k) ≤ 9223372036854775807) := varsN_le (fun k m hk => by
    obtain ⟨_, _, c, es, _, _, _, _, _, hk2, _, _, _, _, _, h3, h4⟩ := h.at (List.getElem?_eq_some_iff.1 hk).1
    rw [hk] at hk2
    cases hk2
    show es.length ≤ _
    omega)
  clear h q0
  go_enter Tryz.func63, Tryz.ntmps63
  go_wp2
  go_loopw [3, 8] (fun x i wr => ∃ k : Nat, k ≤ p.length ∧ i = .int .i64 k ∧ x = .int .i64 (varsN (p.take k) : Nat) ∧ Below w.heap.size w wr) (fun _ i _ => p.length - (intOf i).toNat)
  case atStart => exact ⟨0, by omega, rfl, rfl, Below.refl _ _⟩
  case round =>
    obtain ⟨k, hk, rfl, rfl, hbl⟩ := hrel
    by_cases hlt : k < p.length
    · obtain ⟨g, off, c, es, a1, c1, a2, c2, rfl, hm1, hc0, hc1, hmo, hl1, hl2, hl3, hl4⟩ := (HM.out.kp (Kp.of_below hbl)).at hlt
      have HS : Hid (varsN (p.take (k + 1)) = max (varsN (p.take k)) es.length) := varsN_step hm1
      have HB : Hid (Below w.heap.size w (wr.alloc (.cells #[.slice a1 c.length c1, .slice a2 es.length c2] 37))) := below_step hbl (below_alloc _)
      have hvk := HV.out k
      obtain ⟨V, hV⟩ : ∃ V, V = varsN (p.take k) := ⟨_, rfl⟩
      rw [← hV] at hvk HS ⊢
      clear hm1 hmo hbl hV
      go_wp2
      go_roundw
      case rel => exact ⟨k + 1, by omega, by go_num, congrArg (Value.int .i64) (by rw [HS.out]; omega), HB.out⟩
      case measure => simp [intOf]; omega
    · have hke : k = p.length := by omega
      subst hke
      rw [List.take_of_length_le (Nat.le_refl _)]
      go_wp2
      go_ret
      exact ⟨rfl, hbl⟩

theorem isAbove_any (v u : Value) (xs ys : List Nat) (w : World) (h : Sl w v xs) (h' : Sl w u ys) :
    Calls Tryz.prog 103 #[v, u] w fun e w' => e = .returned (.bool (decide (0 < cmpV xs ys))) ∧ ∃ n, w' = w.drewN n := by
  go_enter Tryz.func103, Tryz.ntmps103
  go_wp2_with (go_at_call 35; refine (cmp_any v u xs ys _ h h').mono ?_; rintro e w' ⟨rfl, n, rfl⟩)
  go_ret
  exact ⟨rfl, _, rfl⟩

end Go.Proofs.YtdjmjhlbjcgoiaaGreatDoor

/- Powers. -/
namespace Go.Proofs
open Go.Shelf Go.RowKit Go.Lib

def Tryz.bitsLen_ren : Go.Shelf.Ren := ⟨fun | 125 => 156 | 128 => 179 | 129 => 180 | n => n, fun | 46 => 204 | 3 => 3 | 51 => 38 | 53 => 207 | 4 => 4 | 5 => 5 | 9 => 9 | n => n, fun | n => n⟩
theorem Tryz.bitsLen : Go.Proofs.Lays.n125 Tryz.prog Tryz.bitsLen_ren := {
  mixed := by kernel_rfl
  f125 := Tryz.func156.trans (congrArg some (by kernel_rfl))
  f128 := Tryz.func179.trans (congrArg some (by kernel_rfl))
  f129 := Tryz.func180.trans (congrArg some (by kernel_rfl))
  t3 := Tryz.underlying3
  a3 := Tryz.isAgg3
  z3 := Tryz.sizeOf3
  v3 := Tryz.zeroValue3
  t4 := Tryz.underlying4
  a4 := Tryz.isAgg4
  z4 := Tryz.sizeOf4
  v4 := Tryz.zeroValue4
  t5 := Tryz.underlying5
  a5 := Tryz.isAgg5
  z5 := Tryz.sizeOf5
  v5 := Tryz.zeroValue5
  t9 := Tryz.underlying9
  a9 := Tryz.isAgg9
  z9 := Tryz.sizeOf9
  v9 := Tryz.zeroValue9
  t46 := Tryz.underlying204
  a46 := Tryz.isAgg204
  z46 := Tryz.sizeOf204
  v46 := Tryz.zeroValue204
  t51 := Tryz.underlying38
  a51 := Tryz.isAgg38
  z51 := Tryz.sizeOf38
  v51 := Tryz.zeroValue38
  t53 := Tryz.underlying207
  a53 := Tryz.isAgg207
  z53 := Tryz.sizeOf207
  v53 := Tryz.zeroValue207 }

end Go.Proofs

namespace Go.Proofs.YtdjmjhlbjcgoiaaGreatDoor

open Go.RowKit Go.Maps

/-- A power, from the highest bit but one down. -/
def powGo {α : Type} (tL : α → α → α) (tE : α → α → Int) (nil a : α) (n : Nat) : Nat → α → α × Int
  | 0, out => (out, 0)
  | b + 1, out =>
    if tE out out = 0 then
      if n / 2 ^ b % 2 = 1 then
        if tE (tL out out) a = 0 then powGo tL tE nil a n b (tL (tL out out) a) else (nil, tE (tL out out) a)
      else powGo tL tE nil a n b (tL out out)
    else (nil, tE out out)

/-- A way to multiply that a call is handed: what it answers, in every world. -/
def Times {α : Type} (R : World → Value → α → Prop) (D : α → Prop) (tL : α → α → α) (tE : α → α → Int) (g : FuncId) : Prop :=
  ∀ (v u : Value) (a b : α) (w : World), R w v a → R w u b → D a → D b →
    Calls Tryz.prog g #[v, u] w fun e w' => ∃ v', e = .returned (.tuple #[v', .int .i64 (tE a b)]) ∧ R w' v' (tL a b) ∧ Below w.heap.size w w'

theorem bitsLen_any (n : Nat) (w : World) (h : n ≤ 18446744073709551615) : Calls Tryz.prog 156 #[.int .u64 (n : Int)] w fun e w' => e = .returned (.int .i64 (Lib.bitLen n : Nat)) ∧ w' = w :=
  Any.bits_Len Tryz.bitsLen n w (by omega) (by omega)

theorem bitLen_le {n : Nat} (h1 : 1 ≤ n) (h2 : n ≤ 64) : 1 ≤ Lib.bitLen n ∧ Lib.bitLen n ≤ 7 := by
  have h : ∀ k : Fin 65, 1 ≤ k.1 → 1 ≤ Lib.bitLen k.1 ∧ Lib.bitLen k.1 ≤ 7 := by decide +kernel
  exact h ⟨n, by omega⟩ h1

theorem bit_at (n c : Nat) (h : n ≤ 64) (hc : c ≤ 6) : bits BinOp.and IntKind.i64 ((n : Int) / 2 ^ c) 1 = ((n / 2 ^ c % 2 : Nat) : Int) := by
  have hh : ∀ (k : Fin 65) (j : Fin 7), bits BinOp.and IntKind.i64 ((k.1 : Int) / 2 ^ j.1) 1 = ((k.1 / 2 ^ j.1 % 2 : Nat) : Int) := by decide +kernel
  exact hh ⟨n, by omega⟩ ⟨c, by omega⟩

theorem Sl.nil (w : World) : Sl w (.slice none 0 0) [] := ⟨Lim.nil, none, 0, rfl, by simp, by simp [maxLen], fun h => absurd h (by simp)⟩

theorem Ms.nil (w : World) : Ms w (.slice none 0 0) [] := Row.nil (by simp [maxLen])

section

variable {tL : List Nat → List Nat → List Nat} {tE : List Nat → List Nat → Int} {D : List Nat → Prop}

set_option maxRecDepth 100000 in
set_option maxHeartbeats 1000000 in
theorem powerN_any (g : FuncId) (v : Value) (a : List Nat) (n : Nat) (w : World) (ht : Times Sl D tL tE g) (hD : ∀ x y, D x → D y → tE x y = 0 → D (tL x y)) (h : Sl w v a) (hda : D a) (h1 : 1 ≤ n) (h2 : n ≤ 64) (eg : ∀ args w, (callFunc g args).run Tryz.prog w = .ok (.enter g args) w) :
    Calls Tryz.prog 122 #[v, .int .i64 (n : Int), .func (.func g) #[] #[]] w fun e w' => ∃ v', e = .returned (.tuple #[v', .int .i64 (powGo tL tE [] a n (Lib.bitLen n - 1) a).2]) ∧ Sl w' v' (powGo tL tE [] a n (Lib.bitLen n - 1) a).1 ∧ Below w.heap.size w w' := by
  have HT : Hid (Times Sl D tL tE g) := ht
  have HD : Hid (∀ x y, D x → D y → tE x y = 0 → D (tL x y)) := hD
  have HA : Hid (Sl w v a) := h
  have HDa : Hid (D a) := hda
  obtain ⟨B, hB⟩ : ∃ B, B = Lib.bitLen n := ⟨_, rfl⟩
  have hB1 : 1 ≤ B ∧ B ≤ 7 := by rw [hB]; exact bitLen_le h1 h2
  clear ht h hD hda
  rw [← hB]
  have HB : Hid (B = Lib.bitLen n) := hB
  clear hB
  go_enter Tryz.func122, Tryz.ntmps122
  go_wp2_with (go_at_call 156; refine (bitsLen_any n _ (by omega)).mono ?_; rw [← HB.out]; rintro e w9 ⟨rfl, hw9⟩; have hw8 := hw9.symm; subst hw8; clear hw9)
  go_loopw [8, 9] (fun x i wr => ∃ (b : Nat) (out : List Nat), i = .int .i64 ((b : Int) - 1) ∧ b ≤ B - 1 ∧ Sl wr x out ∧ D out ∧ powGo tL tE [] a n (B - 1) a = powGo tL tE [] a n b out ∧ Below w.heap.size w wr) (fun _ i _ => (intOf i + 1).toNat)
  case atStart => exact ⟨B - 1, a, by congr 1; omega, Nat.le_refl _, HA.out, HDa.out, rfl, Below.refl _ _⟩
  case round =>
    obtain ⟨b, out, rfl, hb, hs, hdo, hpo, hbl⟩ := hrel
    have HS : Hid (Sl wr u8 out) := hs
    have HDo : Hid (D out) := hdo
    have HP : Hid (powGo tL tE [] a n (B - 1) a = powGo tL tE [] a n b out) := hpo
    have HBl : Hid (Below w.heap.size w wr) := hbl
    clear hs hpo hbl hdo
    by_cases hb0 : b = 0
    · subst hb0
      have HF : Hid (powGo tL tE [] a n (B - 1) a = (out, 0)) := HP.out
      go_wp2
      go_ret2
      exact ⟨_, ret2i (by rw [HF.out]), by rw [HF.out]; exact HS.out, HBl.out⟩
    · obtain ⟨c, rfl⟩ : ∃ c, b = c + 1 := ⟨b - 1, by omega⟩
      clear hb0
      rw [show ((c + 1 : Nat) : Int) - 1 = (c : Int) by omega]
      go_wp2_with fail
      refine (HT.out u8 u8 out out _ HS.out HS.out HDo.out HDo.out).mono ?_
      rintro e w1 ⟨v1, rfl, ho1, hb1⟩
      have HO1 : Hid (Sl w1 v1 (tL out out)) := ho1
      have HB1 : Hid (Below w.heap.size w w1) := below_step HBl.out hb1
      obtain ⟨E, hE⟩ : ∃ E, E = tE out out := ⟨_, rfl⟩
      have HE : Hid (E = tE out out) := hE
      rw [← hE]
      clear hE ho1 hb1
      by_cases hE0 : E = 0
      · subst hE0
        have HDq : Hid (D (tL out out)) := HD.out _ _ HDo.out HDo.out HE.out.symm
        have hbit := bit_at n c h2 (by omega)
        by_cases hodd : n / 2 ^ c % 2 = 1
        · have hbb : (bits BinOp.and IntKind.i64 ((n : Int) / 2 ^ c) 1 == 1) = true := by rw [hbit, hodd]; rfl
          have Hodd : Hid (n / 2 ^ c % 2 = 1) := hodd
          clear hbit hodd
          go_wp2_with fail
          refine (HT.out v1 v (tL out out) a _ HO1.out (HA.out.kp (Kp.of_below HB1.out)) HDq.out HDa.out).mono ?_
          rintro e w2 ⟨v2, rfl, ho2, hb2⟩
          have HO2 : Hid (Sl w2 v2 (tL (tL out out) a)) := ho2
          have HB2 : Hid (Below w.heap.size w w2) := below_step HB1.out hb2
          obtain ⟨F, hF⟩ : ∃ F, F = tE (tL out out) a := ⟨_, rfl⟩
          have HF : Hid (F = tE (tL out out) a) := hF
          rw [← hF]
          clear hF ho2 hb2
          by_cases hF0 : F = 0
          · subst hF0
            have HDr : Hid (D (tL (tL out out) a)) := HD.out _ _ HDq.out HDa.out HF.out.symm
            go_wp2
            go_roundw
            case rel =>
              refine ⟨c, tL (tL out out) a, by first | rfl | go_num, by omega, HO2.out, HDr.out, ?_, HB2.out⟩
              rw [HP.out, powGo, if_pos HE.out.symm, if_pos Hodd.out, if_pos HF.out.symm]
            case measure => simp [intOf]
          · have hb0 : (F != 0) = true := by rw [bne_iff_ne]; exact hF0
            have HFi : Hid (powGo tL tE [] a n (B - 1) a = ([], F)) := by
              show _ = _
              rw [HP.out, powGo, if_pos HE.out.symm, if_pos Hodd.out, if_neg (by rw [← HF.out]; exact hF0), ← HF.out]
            go_wp2
            go_ret2
            exact ⟨_, ret2i (by rw [HFi.out]), by rw [HFi.out]; exact Sl.nil _, HB2.out⟩
        · have hbb : (bits BinOp.and IntKind.i64 ((n : Int) / 2 ^ c) 1 == 1) = false := by
            rw [hbit, beq_eq_false_iff_ne]
            omega
          have Hodd : Hid (¬ n / 2 ^ c % 2 = 1) := hodd
          clear hbit hodd
          go_wp2
          go_roundw
          case rel =>
            refine ⟨c, tL out out, by first | rfl | go_num, by omega, HO1.out, HDq.out, ?_, HB1.out⟩
            rw [HP.out, powGo, if_pos HE.out.symm, if_neg Hodd.out]
          case measure => simp [intOf]
      · have hb0 : (E != 0) = true := by rw [bne_iff_ne]; exact hE0
        have hb1 : (E == 0) = false := by rw [beq_eq_false_iff_ne]; exact hE0
        have HFi : Hid (powGo tL tE [] a n (B - 1) a = ([], E)) := by
          show _ = _
          rw [HP.out, powGo, if_neg (by rw [← HE.out]; exact hE0), ← HE.out]
        go_wp2
        go_ret2
        exact ⟨_, ret2i (by rw [HFi.out]), by rw [HFi.out]; exact Sl.nil _, HB1.out⟩

end

section

variable {tL : List Mn → List Mn → List Mn} {tE : List Mn → List Mn → Int} {D : List Mn → Prop}

set_option maxRecDepth 100000 in
set_option maxHeartbeats 1000000 in
theorem powerM_any (g : FuncId) (v : Value) (a : List Mn) (n : Nat) (w : World) (ht : Times Ms D tL tE g) (hD : ∀ x y, D x → D y → tE x y = 0 → D (tL x y)) (h : Ms w v a) (hda : D a) (h1 : 1 ≤ n) (h2 : n ≤ 64) (eg : ∀ args w, (callFunc g args).run Tryz.prog w = .ok (.enter g args) w) :
    Calls Tryz.prog 114 #[v, .int .i64 (n : Int), .func (.func g) #[] #[]] w fun e w' => ∃ v', e = .returned (.tuple #[v', .int .i64 (powGo tL tE [] a n (Lib.bitLen n - 1) a).2]) ∧ Ms w' v' (powGo tL tE [] a n (Lib.bitLen n - 1) a).1 ∧ Below w.heap.size w w' := by
  have HT : Hid (Times Ms D tL tE g) := ht
  have HD : Hid (∀ x y, D x → D y → tE x y = 0 → D (tL x y)) := hD
  have HA : Hid (Ms w v a) := h
  have HDa : Hid (D a) := hda
  obtain ⟨B, hB⟩ : ∃ B, B = Lib.bitLen n := ⟨_, rfl⟩
  have hB1 : 1 ≤ B ∧ B ≤ 7 := by rw [hB]; exact bitLen_le h1 h2
  clear ht h hD hda
  rw [← hB]
  have HB : Hid (B = Lib.bitLen n) := hB
  clear hB
  go_enter Tryz.func114, Tryz.ntmps114
  go_wp2_with (go_at_call 156; refine (bitsLen_any n _ (by omega)).mono ?_; rw [← HB.out]; rintro e w9 ⟨rfl, hw9⟩; have hw8 := hw9.symm; subst hw8; clear hw9)
  go_loopw [8, 9] (fun x i wr => ∃ (b : Nat) (out : List Mn), i = .int .i64 ((b : Int) - 1) ∧ b ≤ B - 1 ∧ Ms wr x out ∧ D out ∧ powGo tL tE [] a n (B - 1) a = powGo tL tE [] a n b out ∧ Below w.heap.size w wr) (fun _ i _ => (intOf i + 1).toNat)
  case atStart => exact ⟨B - 1, a, by congr 1; omega, Nat.le_refl _, HA.out, HDa.out, rfl, Below.refl _ _⟩
  case round =>
    obtain ⟨b, out, rfl, hb, hs, hdo, hpo, hbl⟩ := hrel
    have HS : Hid (Ms wr u8 out) := hs
    have HDo : Hid (D out) := hdo
    have HP : Hid (powGo tL tE [] a n (B - 1) a = powGo tL tE [] a n b out) := hpo
    have HBl : Hid (Below w.heap.size w wr) := hbl
    clear hs hpo hbl hdo
    by_cases hb0 : b = 0
    · subst hb0
      have HF : Hid (powGo tL tE [] a n (B - 1) a = (out, 0)) := HP.out
      go_wp2
      go_ret2
      exact ⟨_, ret2i (by rw [HF.out]), by rw [HF.out]; exact HS.out, HBl.out⟩
    · obtain ⟨c, rfl⟩ : ∃ c, b = c + 1 := ⟨b - 1, by omega⟩
      clear hb0
      rw [show ((c + 1 : Nat) : Int) - 1 = (c : Int) by omega]
      go_wp2_with fail
      refine (HT.out u8 u8 out out _ HS.out HS.out HDo.out HDo.out).mono ?_
      rintro e w1 ⟨v1, rfl, ho1, hb1⟩
      have HO1 : Hid (Ms w1 v1 (tL out out)) := ho1
      have HB1 : Hid (Below w.heap.size w w1) := below_step HBl.out hb1
      obtain ⟨E, hE⟩ : ∃ E, E = tE out out := ⟨_, rfl⟩
      have HE : Hid (E = tE out out) := hE
      rw [← hE]
      clear hE ho1 hb1
      by_cases hE0 : E = 0
      · subst hE0
        have HDq : Hid (D (tL out out)) := HD.out _ _ HDo.out HDo.out HE.out.symm
        have hbit := bit_at n c h2 (by omega)
        by_cases hodd : n / 2 ^ c % 2 = 1
        · have hbb : (bits BinOp.and IntKind.i64 ((n : Int) / 2 ^ c) 1 == 1) = true := by rw [hbit, hodd]; rfl
          have Hodd : Hid (n / 2 ^ c % 2 = 1) := hodd
          clear hbit hodd
          go_wp2_with fail
          refine (HT.out v1 v (tL out out) a _ HO1.out (HA.out.kp (Kp.of_below HB1.out)) HDq.out HDa.out).mono ?_
          rintro e w2 ⟨v2, rfl, ho2, hb2⟩
          have HO2 : Hid (Ms w2 v2 (tL (tL out out) a)) := ho2
          have HB2 : Hid (Below w.heap.size w w2) := below_step HB1.out hb2
          obtain ⟨F, hF⟩ : ∃ F, F = tE (tL out out) a := ⟨_, rfl⟩
          have HF : Hid (F = tE (tL out out) a) := hF
          rw [← hF]
          clear hF ho2 hb2
          by_cases hF0 : F = 0
          · subst hF0
            have HDr : Hid (D (tL (tL out out) a)) := HD.out _ _ HDq.out HDa.out HF.out.symm
            go_wp2
            go_roundw
            case rel =>
              refine ⟨c, tL (tL out out) a, by first | rfl | go_num, by omega, HO2.out, HDr.out, ?_, HB2.out⟩
              rw [HP.out, powGo, if_pos HE.out.symm, if_pos Hodd.out, if_pos HF.out.symm]
            case measure => simp [intOf]
          · have hb0 : (F != 0) = true := by rw [bne_iff_ne]; exact hF0
            have HFi : Hid (powGo tL tE [] a n (B - 1) a = ([], F)) := by
              show _ = _
              rw [HP.out, powGo, if_pos HE.out.symm, if_pos Hodd.out, if_neg (by rw [← HF.out]; exact hF0), ← HF.out]
            go_wp2
            go_ret2
            exact ⟨_, ret2i (by rw [HFi.out]), by rw [HFi.out]; exact Ms.nil _, HB2.out⟩
        · have hbb : (bits BinOp.and IntKind.i64 ((n : Int) / 2 ^ c) 1 == 1) = false := by
            rw [hbit, beq_eq_false_iff_ne]
            omega
          have Hodd : Hid (¬ n / 2 ^ c % 2 = 1) := hodd
          clear hbit hodd
          go_wp2
          go_roundw
          case rel =>
            refine ⟨c, tL out out, by first | rfl | go_num, by omega, HO1.out, HDq.out, ?_, HB1.out⟩
            rw [HP.out, powGo, if_pos HE.out.symm, if_neg Hodd.out]
          case measure => simp [intOf]
      · have hb0 : (E != 0) = true := by rw [bne_iff_ne]; exact hE0
        have hb1 : (E == 0) = false := by rw [beq_eq_false_iff_ne]; exact hE0
        have HFi : Hid (powGo tL tE [] a n (B - 1) a = ([], E)) := by
          show _ = _
          rw [HP.out, powGo, if_neg (by rw [← HE.out]; exact hE0), ← HE.out]
        go_wp2
        go_ret2
        exact ⟨_, ret2i (by rw [HFi.out]), by rw [HFi.out]; exact Ms.nil _, HB1.out⟩

end

end Go.Proofs.YtdjmjhlbjcgoiaaGreatDoor
