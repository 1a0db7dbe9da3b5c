/- Texts of the proof, one behind the other. -/
import Derived.Test.YtgpbnbmjgcchfaaGreatDoorOwn11
import Derived.Ground.NamesProg
import Derived.Shelf.Sort.Plain
import Derived.Shelf.Slices.In.SortNone
import Derived.Sort.OwnSortedInts
import Derived.Test.YtgpbnbmjgcchfaaGreatDoorOwn9
import Derived.Test.YtgpbnbmjgcchfaaGreatDoorOwn4
import Derived.Test.YtgpbnbmjgcchfaaGreatDoorOwn7
import Derived.Deep.LoopGhost
/- slices.Sort at []int laid; risingBinds of package match walked. -/
namespace Go.Proofs.YtgpbnbmjgcchfaaGreatDoor
open Go.RowKit Go.Maps

def sortI (xs : List Int) : List Int := xs.mergeSort fun x y => decide (x ≤ y)

theorem sortI_len (xs : List Int) : (sortI xs).length = xs.length := by unfold sortI; simp

theorem sortI_mem (xs : List Int) (x : Int) : x ∈ sortI xs ↔ x ∈ xs := by unfold sortI; simp

def Tryz.sortLay_ren : Go.Shelf.Ren := ⟨fun | 189 => 93 | 125 => 107 | 257 => 106 | 128 => 126 | 129 => 127 | 294 => 117 | 295 => 118 | 296 => 119 | 297 => 120 | 298 => 121 | 299 => 122 | 216 => 123 | 300 => 124 | 301 => 125 | 328 => 131 | 329 => 132 | 330 => 133 | 331 => 134 | 332 => 135 | 215 => 61 | 343 => 136 | n => n, fun | 28 => 26 | 3 => 3 | 46 => 151 | 0 => 0 | 51 => 169 | 53 => 171 | 4 => 4 | 183 => 163 | 182 => 162 | 131 => 92 | 5 => 5 | 9 => 9 | 218 => 178 | 222 => 182 | 228 => 184 | 229 => 185 | n => n, fun | n => n⟩
theorem Tryz.sortLay : Go.Proofs.Lays.n189 Tryz.prog Tryz.sortLay_ren := {
  mixed := by kernel_rfl
  f125 := Tryz.func107.trans (congrArg some (by kernel_rfl))
  f128 := Tryz.func126.trans (congrArg some (by kernel_rfl))
  f129 := Tryz.func127.trans (congrArg some (by kernel_rfl))
  f189 := Tryz.func93.trans (congrArg some (by kernel_rfl))
  f215 := Tryz.func61.trans (congrArg some (by kernel_rfl))
  f216 := Tryz.func123.trans (congrArg some (by kernel_rfl))
  f257 := Tryz.func106.trans (congrArg some (by kernel_rfl))
  f294 := Tryz.func117.trans (congrArg some (by kernel_rfl))
  f295 := Tryz.func118.trans (congrArg some (by kernel_rfl))
  f296 := Tryz.func119.trans (congrArg some (by kernel_rfl))
  f297 := Tryz.func120.trans (congrArg some (by kernel_rfl))
  f298 := Tryz.func121.trans (congrArg some (by kernel_rfl))
  f299 := Tryz.func122.trans (congrArg some (by kernel_rfl))
  f300 := Tryz.func124.trans (congrArg some (by kernel_rfl))
  f301 := Tryz.func125.trans (congrArg some (by kernel_rfl))
  f328 := Tryz.func131.trans (congrArg some (by kernel_rfl))
  f329 := Tryz.func132.trans (congrArg some (by kernel_rfl))
  f330 := Tryz.func133.trans (congrArg some (by kernel_rfl))
  f331 := Tryz.func134.trans (congrArg some (by kernel_rfl))
  f332 := Tryz.func135.trans (congrArg some (by kernel_rfl))
  f343 := Tryz.func136.trans (congrArg some (by kernel_rfl))
  t0 := Tryz.underlying0
  a0 := Tryz.isAgg0
  z0 := Tryz.sizeOf0
  v0 := Tryz.zeroValue0
  t3 := Tryz.underlying3
  a3 := Tryz.isAgg3
  z3 := Tryz.sizeOf3
  v3 := Tryz.zeroValue3
  t4 := Tryz.underlying4
  a4 := Tryz.isAgg4
  z4 := Tryz.sizeOf4
  v4 := Tryz.zeroValue4
  t5 := Tryz.underlying5
  a5 := Tryz.isAgg5
  z5 := Tryz.sizeOf5
  v5 := Tryz.zeroValue5
  t9 := Tryz.underlying9
  a9 := Tryz.isAgg9
  z9 := Tryz.sizeOf9
  v9 := Tryz.zeroValue9
  t28 := Tryz.underlying26
  a28 := Tryz.isAgg26
  z28 := Tryz.sizeOf26
  v28 := Tryz.zeroValue26
  t46 := Tryz.underlying151
  a46 := Tryz.isAgg151
  z46 := Tryz.sizeOf151
  v46 := Tryz.zeroValue151
  t51 := Tryz.underlying169
  a51 := Tryz.isAgg169
  z51 := Tryz.sizeOf169
  v51 := Tryz.zeroValue169
  t53 := Tryz.underlying171
  a53 := Tryz.isAgg171
  z53 := Tryz.sizeOf171
  v53 := Tryz.zeroValue171
  t131 := Tryz.underlying92
  a131 := Tryz.isAgg92
  z131 := Tryz.sizeOf92
  v131 := Tryz.zeroValue92
  t182 := Tryz.underlying162
  a182 := Tryz.isAgg162
  z182 := Tryz.sizeOf162
  v182 := Tryz.zeroValue162
  t183 := Tryz.underlying163
  a183 := Tryz.isAgg163
  z183 := Tryz.sizeOf163
  v183 := Tryz.zeroValue163
  t218 := Tryz.underlying178
  a218 := Tryz.isAgg178
  z218 := Tryz.sizeOf178
  v218 := Tryz.zeroValue178
  t222 := Tryz.underlying182
  a222 := Tryz.isAgg182
  z222 := Tryz.sizeOf182
  v222 := Tryz.zeroValue182
  t228 := Tryz.underlying184
  a228 := Tryz.isAgg184
  z228 := Tryz.sizeOf184
  v228 := Tryz.zeroValue184
  t229 := Tryz.underlying185
  a229 := Tryz.isAgg185
  z229 := Tryz.sizeOf185
  v229 := Tryz.zeroValue185 }

set_option maxRecDepth 100000 in
set_option maxHeartbeats 800000 in
theorem sortI_any (v : Value) (xs : List Int) (w : World) (base : Nat) (ho : OwI w base v xs) (hn : xs.length < 4611686018427387904) :
    Calls Tryz.prog 93 #[v] w fun e w' => e = .returned (.tuple #[]) ∧ OwI w' base v (sortI xs) ∧ w.grownBy w' v.ownBlock := by
  have hz : ZI (sortI xs) := fun k x hk => by
    obtain ⟨j, hj⟩ := List.getElem?_of_mem ((sortI_mem xs x).1 (List.mem_of_getElem? hk))
    exact ho.1 j x hj
  rcases ho.2.2 with ⟨rfl, h0⟩ | ⟨g, cap, cur, rfl, hb, hg, hc, hm, hs, ht⟩
  · obtain rfl : xs = [] := List.eq_nil_of_length_eq_zero h0
    have hcon := Any.slices_Sort_int_none Tryz.sortLay none 0 w
    change Calls Tryz.prog 93 _ _ _ at hcon
    refine hcon.mono ?_
    rintro e w' ⟨rfl, rfl⟩
    exact ⟨rfl, by simpa [sortI] using ho, World.grownBy.refl _ _⟩
  · rw [Nat.mul_one] at ht
    have hcon := Any.slices_Sort_int Tryz.sortLay g 0 cap xs w (holds_of_blockI hg ht) (Array.getElem?_eq_some_iff.1 hg).1 hn
    change Calls Tryz.prog 93 _ _ _ at hcon
    refine hcon.mono ?_
    rintro e w' ⟨rfl, n, os, rfl⟩
    refine ⟨rfl, ⟨hz, ?_⟩, grownBy_sortedI _⟩
    have := ownsRow_sortedI (n := n) (os := os) (sortI_len xs) hb hg hc hm hs
    rw [sortI_len]
    exact this

set_option maxRecDepth 100000 in
set_option maxHeartbeats 1600000 in
theorem risingBinds_any (f : Int → Option (List Int)) (b : Nat) (L : List (Int × Value)) (vv : Value) (xs : List Int) (wB w : World) (hb0 : Below wB.heap.size wB w) (ho : OwI w wB.heap.size vv xs) (hm : MapV w b L) (hb : b < wB.heap.size)
    (hL : ∀ x ∈ xs, ∃ v u, L.lookup x = some v ∧ f x = some u ∧ Is wB v u ∧ 0 < u.length ∧ u.length * 8 ≤ 140737488351232) (hl : xs.length * 32 ≤ 140737488351232) :
    Calls Tryz.prog 71 #[vv, .map (some b)] w fun e w' => ∃ v', e = .returned v' ∧ OBW wB.heap.size w' v' ((sortI xs).map fun n => (n, (f n).getD [])) ∧ Below wB.heap.size wB w' := by
  have hlen := sortI_len xs
  obtain ⟨ys, hys⟩ : ∃ ys, ys = sortI xs := ⟨_, rfl⟩
  have hLy : ∀ x ∈ ys, ∃ v u, L.lookup x = some v ∧ f x = some u ∧ Is wB v u ∧ 0 < u.length ∧ u.length * 8 ≤ 140737488351232 := fun x hx => hL x (by rw [hys, sortI_mem] at hx; exact hx)
  have HO := hid ho
  have HM := hid hm
  have HL := hid hLy
  have HB0 := hid hb0
  have HYs := hid hys
  rw [← hys] at hlen ⊢
  have hl2 : ys.length * 32 ≤ 140737488351232 := by omega
  clear ho hm hL hb0 hLy
  go_enter Tryz.func71, Tryz.ntmps71
  go_wp2_with fail
  refine (sortI_any vv xs w _ HO.out (by omega)).mono ?_
  rintro e w1 ⟨rfl, ho1, hg1⟩
  rw [← hys] at ho1
  have hne : vv.ownBlock ≠ some b := fun h => by have := own_blk HO.out.2 h; omega
  have HM1 := hid (HM.out.kept hg1 hne)
  have HB1 : Hid (Below wB.heap.size wB w1) := HB0.out.grown hg1 HB0.out.size (fun j hj => own_blk HO.out.2 hj)
  obtain ⟨ao, cap, hvv, hc1, hc2⟩ := ho1.shape
  subst hvv
  have HO1 := hid ho1
  clear ho1 hg1 hne HO HM HB0 hys hlen hl
  unfold maxLen at hc2
  go_wp2
  go_loopw [5, 12] (fun x i wr => ∃ k : Nat, k ≤ ys.length ∧ i = .int .i64 k ∧ OBW wB.heap.size wr x ((ys.take k).map fun n => (n, (f n).getD [])) ∧ OwI wr wB.heap.size (.slice ao ys.length cap) ys ∧ MapV wr b L ∧ Below wB.heap.size wB wr) (fun _ i _ => ys.length - (intOf i).toNat)
  case atStart => exact ⟨0, Nat.zero_le _, rfl, OBW.nil _ _, HO1.out, HM1.out, HB1.out⟩
  case round =>
    obtain ⟨k, hk, rfl, hob, hov, hmr, hbr⟩ := hrel
    clear HO1 HM1 HB1
    by_cases hlt : k < ys.length
    · obtain ⟨g, off, y, rfl, hyk, hcy, hy1, hy2⟩ := hov.is.at hlt
      obtain ⟨v, u, hlk, hfu, hiv, hu0, hu8⟩ := HL.out y (List.mem_of_getElem? hyk)
      have hrl := hmr.lookOne under_mapI (zero_rowI wr) hy1 hy2 hlk
      have HRl := hid hrl
      have HOb := hid hob
      have HOv := hid hov
      have HMr := hid hmr
      have HBr := hid hbr
      have HIv := hid (hiv.kp (Kp.of_below hbr))
      have HTk : Hid ((ys.take (k + 1)).map (fun n => (n, (f n).getD [])) = (ys.take k).map (fun n => (n, (f n).getD [])) ++ [(y, u)]) := by
        show _ = _
        rw [take_get hyk, List.map_append]
        simp [hfu]
      have HTl : Hid (((ys.take k).map fun n => (n, (f n).getD [])).length = k) := by show _ = _; rw [List.length_map, List.length_take]; omega
      clear hob hov hmr hbr hiv hrl hyk hlk hfu
      go_wp2_with (first
        | (at_lookup; refine wpList_lookup_run rfl _ _ _ _ rfl _ _ _ rfl rfl HRl.out ?_))
      clear HRl
      refine (cloneI_any v u wr HIv.out hu0 (by omega)).mono ?_
      rintro e w2 ⟨v2, rfl, ho2, hb2⟩
      obtain ⟨a2, c2, hv2, _⟩ := ho2.shape
      subst hv2
      obtain ⟨v6, w6, hr6, ho6, hg6, hj6⟩ := OBW.snoc 39 (x := y) (t := u) (HOb.out.later hb2) (by have := hb2.size; have := HBr.out.size; omega) ⟨ho2.mono (HBr.out.size), hy1, hy2, hu8⟩ (by rw [HTl.out]; omega)
      have hba := below_step hb2 (below_alloc (.cells #[.int .i64 y, .slice a2 u.length c2] 121))
      have hBa := below_step HBr.out hba
      have HO6 := hid ho6
      have HR6 := hid hr6
      have HB6 : Hid (Below wB.heap.size wB w6) := hBa.grown hg6 hBa.size (fun j hj => (hj6 j hj).1)
      have HV6 : Hid (OwI w6 wB.heap.size (.slice (some ⟨g, off, none⟩) ys.length cap) ys) := (HOv.out.later hba).kept hg6 (by
        obtain ⟨us9, _, _, h9⟩ := HOb.out
        exact ownsRow_apart HOv.out.2 h9 (by decide))
      have HM6 : Hid (MapV w6 b L) := (HMr.out.later hba).kept hg6 (fun h => by have := (hj6 _ h).1; omega)
      clear hr6 ho6 hg6 hj6 hba hBa ho2 hb2 hcy HOb HOv HMr HIv
      go_wp2_with (first
        | (at_builtin; refine wpList_append_run rfl _ _ _ rfl _ _ rfl rfl HR6.out ?_))
      go_roundw
      case measure => simp only [intOf]; omega
      case rel => exact ⟨k + 1, hlt, by go_num, by rw [HTk.out]; exact HO6.out, HV6.out, HM6.out, HB6.out⟩
    · have HF : Hid (ys.take k = ys) := List.take_of_length_le (by omega)
      have HOb := hid hob
      have HBr := hid hbr
      clear hob hov hmr hbr
      go_wp2
      go_ret
      exact ⟨_, rfl, by have h9 := HOb.out; rw [HF.out] at h9; exact h9, HBr.out⟩

end Go.Proofs.YtgpbnbmjgcchfaaGreatDoor

/- A term's arguments, one behind the other. -/
namespace Go.Proofs.YtgpbnbmjgcchfaaGreatDoor
open Go.RowKit Go.Maps

/-- What stands at the head of a row of terms. -/
theorem first_part {sig : List Sy} (ha : ArOk sig) : ∀ (r : List Int) (d m : Int) (j i : Nat), 1 ≤ d → d ≤ m → firstT sig m i r = ((i : Int) + r.length, 0) →
    ∃ k : Nat, 1 ≤ k ∧ k ≤ r.length ∧ firstT sig d j r = ((j : Int) + k, 0) ∧ (m = d → k = r.length) ∧ (d < m → firstT sig (m - d) (i + k) (r.drop k) = ((i : Int) + r.length, 0))
  | [], d, m, j, i, _, _, h => by simp [firstT] at h
  | c :: r, d, m, j, i, hd, hm, h => by
    rw [firstT_cons] at h ⊢
    cases hc : codeD sig c with
    | none => rw [hc] at h; simp at h
    | some e =>
      have he := codeD_ge ha hc
      rw [hc] at h
      simp only at h ⊢
      by_cases h0 : m + e = 0
      · rw [if_pos h0] at h
        have hl : r.length = 0 := by
          have := congrArg Prod.fst h
          simp at this
          omega
        refine ⟨1, Nat.le_refl _, by simp, by rw [if_pos (by omega)]; simp, fun _ => by simp [hl], fun h1 => by omega⟩
      · rw [if_neg h0] at h
        by_cases h1 : d + e = 0
        · refine ⟨1, Nat.le_refl _, by simp, by rw [if_pos h1]; simp, fun h2 => by omega, fun h2 => ?_⟩
          rw [List.drop_succ_cons, List.drop_zero, show m - d = m + e by omega]
          exact h
        · obtain ⟨k, k1, k2, k3, k4, k5⟩ := first_part ha r (d + e) (m + e) (j + 1) (i + 1) (by omega) (by omega) (by rw [h]; simp only [List.length_cons, Prod.mk.injEq, and_true]; omega)
          refine ⟨k + 1, by omega, by simp; omega, by rw [if_neg h1, k3]; simp only [Prod.mk.injEq, and_true]; omega, fun h2 => by have := k4 (by omega); simp; omega, fun h2 => ?_⟩
          have h3 := k5 (by omega)
          rw [List.drop_succ_cons, show m - d = m + e - (d + e) by omega, show i + (k + 1) = i + 1 + k by omega, h3]
          simp only [List.length_cons, Prod.mk.injEq, and_true]
          omega

/-- A row of m terms is taken apart. -/
theorem split_first {sig : List Sy} (ha : ArOk sig) : ∀ (m : Nat) (r : List Int) (i : Nat), 1 ≤ m → firstT sig m i r = ((i : Int) + r.length, 0) → ∃ us : List (List Int), us.length = m ∧ r = us.flatten ∧ ∀ u ∈ us, rowE sig u = 0
  | 0, _, _, h, _ => absurd h (by omega)
  | m + 1, r, i, _, h => by
    obtain ⟨k, k1, k2, k3, k4, k5⟩ := first_part ha r 1 ((m + 1 : Nat) : Int) 0 i (by omega) (by omega) h
    obtain ⟨k', e1, _, _, e4⟩ := first_take r 1 0 _ k3
    have hkk : k' = k := by omega
    subst hkk
    have hr : rowE sig (r.take k') = 0 := by
      rw [row_first, e4, List.length_take]
      simp only [Prod.mk.injEq, and_true]
      omega
    by_cases hm : m = 0
    · subst hm
      have := k4 (by omega)
      refine ⟨[r], rfl, by simp, fun u hu => ?_⟩
      rw [List.mem_singleton] at hu
      subst hu
      rw [List.take_of_length_le (by omega)] at hr
      exact hr
    · have h5 := k5 (by omega)
      rw [show ((m + 1 : Nat) : Int) - 1 = (m : Int) by omega] at h5
      obtain ⟨us, u1, u2, u3⟩ := split_first ha m (r.drop k') (i + k') (by omega) (by rw [h5, List.length_drop]; simp only [Prod.mk.injEq, and_true]; omega)
      refine ⟨r.take k' :: us, by simp [u1], by rw [List.flatten_cons, ← u2, List.take_append_drop], fun u hu => ?_⟩
      rcases List.mem_cons.1 hu with rfl | hu
      · exact hr
      · exact u3 u hu

/-- What grows of a row behind another one. -/
theorem grow_behind {sig : List Sy} (ha : ArOk sig) (v : List Int) : ∀ (u p : List Int), firstT sig 1 0 (p ++ u) = (((p ++ u).length : Int), 0) → growR sig (u ++ v) = growR sig v ++ growR sig u
  | [], p, _ => by simp [growR]
  | c :: u, p, h => by
    have ih := grow_behind ha v u (p ++ [c]) (by simpa using h)
    show growStep sig (growR sig (u ++ v)) c = growR sig v ++ growStep sig (growR sig u) c
    rw [ih]
    unfold growStep
    by_cases hc : c < 0
    · rw [if_pos hc, if_pos hc, List.append_assoc]
    · rw [if_neg hc, if_neg hc]
      obtain ⟨_, h2⟩ := grow_code ha p c u 1 0 (by omega) (by rw [h]; simp) hc
      rw [List.length_append, show (growR sig v).length + (growR sig u).length - arN sig c = (growR sig v).length + ((growR sig u).length - arN sig c) by omega, List.take_length_add_append, List.drop_length_add_append, List.append_assoc]

/-- The trees of terms one behind the other. -/
theorem grow_flat {sig : List Sy} (ha : ArOk sig) : ∀ us : List (List Int), (∀ u ∈ us, rowE sig u = 0) → (growR sig us.flatten).reverse.map Tr.size = us.map List.length
  | [], _ => by simp [growR]
  | u :: us, h => by
    obtain ⟨T, h1, h2⟩ := grow_one ha (h u (by simp))
    have h3 := grow_behind ha us.flatten u [] (by rw [List.nil_append]; exact row_first.1 (h u (by simp)))
    rw [List.flatten_cons, h3, h1, List.reverse_append, List.map_append, grow_flat ha us (fun x hx => h x (by simp [hx]))]
    simp [h2]

/-- Places by lengths. -/
def places : Nat → List Nat → List Int
  | _, [] => []
  | p, n :: ns => (p : Int) :: places (p + n) ns

theorem kids_places : ∀ (p : Nat) (ts : List Tr), kidsGo p ts = places p (ts.map Tr.size)
  | _, [] => rfl
  | p, t :: ts => by simp only [kidsGo, List.map_cons, places, kids_places (p + t.size) ts]

theorem places_len : ∀ (p : Nat) (ns : List Nat), (places p ns).length = ns.length
  | _, [] => rfl
  | p, n :: ns => by simp only [places, List.length_cons, places_len (p + n) ns]

theorem places_at : ∀ (us : List (List Int)) (p k : Nat), k < us.length → (places p (us.map List.length))[k]? = some ((p + (us.take k).flatten.length : Nat) : Int)
  | [], _, k, h => by simp at h
  | u :: us, p, 0, _ => by simp [places]
  | u :: us, p, k + 1, h => by
    rw [List.map_cons, places, List.getElem?_cons_succ, places_at us (p + u.length) k (by simpa using h), List.take_succ_cons, List.flatten_cons, List.length_append]
    simp only [Option.some.injEq]
    omega

/-- A symbol's arguments. -/
theorem kids_split {sig : List Sy} (ha : ArOk sig) {c : Int} {r : List Int} (h : rowE sig (c :: r) = 0) (hc : ¬ c < 0) :
    ∃ us : List (List Int), r = us.flatten ∧ (∀ u ∈ us, rowE sig u = 0) ∧ ∃ T, growR sig (c :: r) = [T] ∧ kidsR 0 T = places 1 (us.map List.length) := by
  have h1 := row_first.1 h
  rw [firstT_cons] at h1
  cases hd : codeD sig c with
  | none => rw [hd] at h1; simp at h1
  | some e =>
    rw [hd] at h1
    simp only at h1
    obtain ⟨k1, _⟩ := codeD_ar ha hd hc
    obtain ⟨us, u1, u2, u3⟩ : ∃ us : List (List Int), us.length = arN sig c ∧ r = us.flatten ∧ ∀ u ∈ us, rowE sig u = 0 := by
      by_cases h0 : 1 + e = 0
      · rw [if_pos h0] at h1
        have hl : r.length = 0 := by
          have := congrArg Prod.fst h1
          simp at this
          omega
        exact ⟨[], by simp; omega, by rw [List.eq_nil_of_length_eq_zero hl]; rfl, fun u hu => by cases hu⟩
      · rw [if_neg h0, show (1 : Int) + e = (arN sig c : Int) by omega] at h1
        exact split_first ha _ r (0 + 1) (by omega) (by rw [h1]; simp only [List.length_cons, Prod.mk.injEq, and_true]; omega)
    have hg := grow_flat ha us u3
    have hl : (growR sig r).length = arN sig c := by
      have := congrArg List.length hg
      rw [List.length_map, List.length_map, List.length_reverse, ← u2] at this
      omega
    refine ⟨us, u2, u3, .app (growR sig r).reverse, ?_, ?_⟩
    · show growStep sig (growR sig r) c = _
      unfold growStep
      rw [if_neg hc, hl, Nat.sub_self, List.take_zero, List.drop_zero, List.nil_append]
    · rw [kidsR, kids_places, u2, hg]

theorem term_parts {sig : List Sy} {t : List Int} (h : termE sig t = 0) : sigE sig = 0 ∧ rowE sig t = 0 := by
  unfold termE at h
  by_cases hs : sigE sig = 0
  · rw [if_pos hs] at h; exact ⟨hs, h⟩
  · rw [if_neg hs] at h; exact absurd h hs

/-- The term that stands at a place. -/
theorem sub_at {sig : List Sy} {t p u q : List Int} (ht : termE sig t = 0) (hu : rowE sig u = 0) (he : t = p ++ (u ++ q)) : placeE sig t p.length = 0 ∧ subL sig t p.length = u := by
  have ha := sigE_ok (term_parts ht).1
  have h1 := first_app ha u 1 0 (by omega) (by rw [row_first.1 hu]; simp) 1 0 q (by omega)
  rw [if_pos rfl] at h1
  have hul : 0 < u.length := by
    cases u with
    | nil => simp [rowE, firstT] at hu
    | cons c u => simp
  have h2 : endP sig t p.length = (((p.length + u.length : Nat) : Int), 0) := by
    unfold endP
    rw [if_neg (by rw [he, List.length_append, List.length_append]; omega), Int.toNat_natCast, he, List.drop_left, h1]
    simp only [Prod.mk.injEq, and_true]
    omega
  have h3 : placeE sig t p.length = 0 := by unfold placeE; rw [if_pos ht, h2]
  refine ⟨h3, ?_⟩
  unfold subL
  rw [if_pos h3, h2, Int.toNat_natCast, Int.toNat_natCast, show p.length + u.length - p.length = u.length by omega, he, List.drop_left, List.take_left]

/-- The arguments of a right term's root. -/
theorem root_kids {sig : List Sy} {c : Int} {r : List Int} (ht : termE sig (c :: r) = 0) (hc : ¬ c < 0) :
    placeE sig (c :: r) 0 = 0 ∧ ∃ us : List (List Int), r = us.flatten ∧ (∀ u ∈ us, rowE sig u = 0) ∧ kidsL sig (c :: r) 0 = places 1 (us.map List.length) := by
  obtain ⟨hs, hr⟩ := term_parts ht
  obtain ⟨h1, h2⟩ := sub_at (p := []) (q := []) ht hr (by simp)
  obtain ⟨us, u1, u2, T, u3, u4⟩ := kids_split (sigE_ok hs) hr hc
  refine ⟨h1, us, u1, u2, ?_⟩
  have h3 : subL sig (c :: r) 0 = c :: r := h2
  unfold kidsL
  rw [h3, u3]
  exact u4

/-- Where a substitution meets none of the variables, nothing is done. -/
theorem laid_unmet (f : Int → Option (List Int)) (t : List Int) (h : ∀ c ∈ t, c < 0 → f (-1 - c) = none) : laidL f t = t := by
  unfold laidL
  induction t with
  | nil => rfl
  | cons c t ih =>
    rw [List.flatMap_cons, ih (fun x hx => h x (by simp [hx]))]
    have : piece f c = [c] := by
      unfold piece
      by_cases hc : c < 0
      · simp [hc, h c (by simp) hc]
      · simp [hc]
    rw [this]
    rfl

end Go.Proofs.YtgpbnbmjgcchfaaGreatDoor

/- The places of a term, plainly: what is above a place, where the arguments stand. -/
namespace Go.Proofs.YtgpbnbmjgcchfaaGreatDoor
open Go.RowKit Go.Maps

mutual
/-- The places above a place, of a tree that stands at a place. -/
def abv : Tr → Nat → Nat → List Int
  | .var, _, _ => []
  | .app ts, p, q => if p = q then [] else (p : Int) :: abvs ts (p + 1) q
def abvs : List Tr → Nat → Nat → List Int
  | [], _, _ => []
  | t :: ts, p, q => if p + t.size ≤ q then abvs ts (p + t.size) q else abv t p q
end

/-- How many nodes the term at a place has. -/
def nodes (sig : List Sy) (t : List Int) (i : Nat) : Nat := (firstT sig 1 0 (t.drop i)).1.toNat

/-- The places above a place. -/
def abD (sig : List Sy) (t : List Int) (q : Nat) : List Nat := (List.range q).filter fun i => decide (q < i + nodes sig t i)

theorem first_more {sig : List Sy} (q : List Int) : ∀ (r : List Int) (m : Int) (i : Nat) (n : Int), firstT sig m i r = (n, 0) → firstT sig m i (r ++ q) = (n, 0)
  | [], m, i, n, h => by simp [firstT] at h
  | c :: r, m, i, n, h => by
    rw [List.cons_append, firstT_cons]
    rw [firstT_cons] at h
    cases hc : codeD sig c with
    | none => rw [hc] at h; simp at h
    | some e =>
      rw [hc] at h
      simp only at h ⊢
      by_cases h0 : m + e = 0
      · rw [if_pos h0] at h ⊢; exact h
      · rw [if_neg h0] at h ⊢; exact first_more q r (m + e) (i + 1) n h

theorem first_at {sig : List Sy} (ha : ArOk sig) : ∀ (v : List Int) (m : Int) (j i : Nat), 1 ≤ m → firstT sig m j v = ((j : Int) + v.length, 0) → i < v.length → ∃ m' : Int, 1 ≤ m' ∧ firstT sig m' (j + i) (v.drop i) = ((j : Int) + v.length, 0)
  | v, m, j, 0, hm, h, _ => ⟨m, hm, h⟩
  | [], m, j, i + 1, _, _, hi => by simp at hi
  | c :: v, m, j, i + 1, hm, h, hi => by
    rw [firstT_cons] at h
    cases hc : codeD sig c with
    | none => rw [hc] at h; simp at h
    | some e =>
      have he := codeD_ge ha hc
      rw [hc] at h
      simp only at h
      by_cases h0 : m + e = 0
      · rw [if_pos h0] at h
        have := congrArg Prod.fst h
        simp only [List.length_cons] at this hi
        omega
      · rw [if_neg h0] at h
        obtain ⟨m', h1, h2⟩ := first_at ha v (m + e) (j + 1) i (by omega) (by rw [h]; simp only [List.length_cons, Prod.mk.injEq, and_true]; omega) (by simpa using hi)
        refine ⟨m', h1, ?_⟩
        rw [List.drop_succ_cons, show j + (i + 1) = j + 1 + i by omega, h2]
        simp only [List.length_cons, Prod.mk.injEq, and_true]
        omega

/-- The term at a place of a right term. -/
theorem at_place {sig : List Sy} (ha : ArOk sig) {v : List Int} (h : rowE sig v = 0) {i : Nat} (hi : i < v.length) :
    1 ≤ nodes sig v i ∧ i + nodes sig v i ≤ v.length ∧ firstT sig 1 0 (v.drop i) = ((nodes sig v i : Int), 0) ∧ rowE sig ((v.drop i).take (nodes sig v i)) = 0 := by
  obtain ⟨m', h1, h2⟩ := first_at ha v 1 0 i (by omega) (by rw [row_first.1 h]; simp) hi
  obtain ⟨k, k1, k2, k3, _, _⟩ := first_part ha (v.drop i) 1 m' 0 (0 + i) (by omega) h1 (by rw [h2, List.length_drop]; simp only [Prod.mk.injEq, and_true]; omega)
  have hn : nodes sig v i = k := by unfold nodes; rw [k3]; simp
  rw [hn]
  rw [List.length_drop] at k2
  have k3' : firstT sig 1 0 (v.drop i) = ((k : Int), 0) := by rw [k3]; simp
  refine ⟨k1, by omega, k3', ?_⟩
  obtain ⟨k', e1, _, _, e4⟩ := first_take (v.drop i) 1 0 _ k3'
  have : k' = k := by omega
  subst this
  rw [row_first, e4, List.length_take, List.length_drop]
  simp only [Prod.mk.injEq, and_true]
  omega

theorem nodes_app {sig : List Sy} (ha : ArOk sig) {v : List Int} (h : rowE sig v = 0) {i : Nat} (hi : i < v.length) (q : List Int) : nodes sig (v ++ q) i = nodes sig v i := by
  obtain ⟨_, _, h3, _⟩ := at_place ha h hi
  have h4 := first_more q _ _ _ _ h3
  rw [← List.drop_append_of_le_length (by omega)] at h4
  have h5 : nodes sig (v ++ q) i = ((nodes sig v i : Int)).toNat := by
    show (firstT sig 1 0 ((v ++ q).drop i)).1.toNat = _
    rw [h4]
  rw [h5, Int.toNat_natCast]

theorem nodes_behind {sig : List Sy} (v q : List Int) (i : Nat) : nodes sig (v ++ q) (v.length + i) = nodes sig q i := by
  unfold nodes
  rw [List.drop_length_add_append]

theorem nodes_drop {sig : List Sy} (t : List Int) (j i : Nat) : nodes sig (t.drop j) i = nodes sig t (j + i) := by
  unfold nodes
  rw [List.drop_drop]

theorem nodes_root {sig : List Sy} {v : List Int} (h : rowE sig v = 0) : nodes sig v 0 = v.length := by
  unfold nodes
  rw [List.drop_zero, row_first.1 h]
  simp

/-- Terms lie in one another, or apart. -/
theorem lam {sig : List Sy} (ha : ArOk sig) {t : List Int} (h : rowE sig t = 0) {i j : Nat} (hj : j < t.length) (h1 : j ≤ i) (h2 : i < j + nodes sig t j) : i + nodes sig t i ≤ j + nodes sig t j := by
  obtain ⟨_, k2, k3, k4⟩ := at_place ha h hj
  have hl : ((t.drop j).take (nodes sig t j)).length = nodes sig t j := by rw [List.length_take, List.length_drop]; omega
  have h3 := at_place ha k4 (i := i - j) (by rw [hl]; omega)
  have h4 := nodes_app ha k4 (i := i - j) (by rw [hl]; omega) ((t.drop j).drop (nodes sig t j))
  rw [List.take_append_drop, nodes_drop, show j + (i - j) = i by omega] at h4
  rw [← h4, hl] at h3
  omega

theorem grow_map {sig : List Sy} (ha : ArOk sig) : ∀ us : List (List Int), (∀ u ∈ us, rowE sig u = 0) → (growR sig us.flatten).reverse = us.flatMap (growR sig)
  | [], _ => by simp [growR]
  | u :: us, h => by
    obtain ⟨T, h1, _⟩ := grow_one ha (h u (by simp))
    have h3 := grow_behind ha us.flatten u [] (by rw [List.nil_append]; exact row_first.1 (h u (by simp)))
    rw [List.flatten_cons, h3, h1, List.reverse_append, grow_map ha us (fun x hx => h x (by simp [hx])), List.flatMap_cons, h1]
    rfl

/-- A symbol's arguments, as a tree. -/
theorem kids_tree {sig : List Sy} (ha : ArOk sig) {c : Int} {r : List Int} (h : rowE sig (c :: r) = 0) (hc : ¬ c < 0) :
    ∃ us : List (List Int), us.length = arN sig c ∧ r = us.flatten ∧ (∀ u ∈ us, rowE sig u = 0) ∧ growR sig (c :: r) = [.app (us.flatMap (growR sig))] := by
  have h1 := row_first.1 h
  rw [firstT_cons] at h1
  cases hd : codeD sig c with
  | none => rw [hd] at h1; simp at h1
  | some e =>
    rw [hd] at h1
    simp only at h1
    obtain ⟨k1, _⟩ := codeD_ar ha hd hc
    obtain ⟨us, u1, u2, u3⟩ : ∃ us : List (List Int), us.length = arN sig c ∧ r = us.flatten ∧ ∀ u ∈ us, rowE sig u = 0 := by
      by_cases h0 : 1 + e = 0
      · rw [if_pos h0] at h1
        have hl : r.length = 0 := by
          have := congrArg Prod.fst h1
          simp at this
          omega
        exact ⟨[], by simp; omega, by rw [List.eq_nil_of_length_eq_zero hl]; rfl, fun u hu => by cases hu⟩
      · rw [if_neg h0, show (1 : Int) + e = (arN sig c : Int) by omega] at h1
        exact split_first ha _ r (0 + 1) (by omega) (by rw [h1]; simp only [List.length_cons, Prod.mk.injEq, and_true]; omega)
    have hl : (growR sig r).length = arN sig c := by
      have := congrArg List.length (grow_flat ha us u3)
      rw [List.length_map, List.length_map, List.length_reverse, ← u2] at this
      omega
    refine ⟨us, u1, u2, u3, ?_⟩
    show growStep sig (growR sig r) c = _
    unfold growStep
    rw [if_neg hc, hl, Nat.sub_self, List.take_zero, List.drop_zero, List.nil_append, u2, grow_map ha us u3]

theorem abD_far {sig : List Sy} (ha : ArOk sig) {v : List Int} (h : rowE sig v = 0) (r : List Int) {q : Nat} (hq : v.length ≤ q) : abD sig (v ++ r) q = (abD sig r (q - v.length)).map (v.length + ·) := by
  obtain ⟨d, rfl⟩ : ∃ d, q = v.length + d := ⟨q - v.length, by omega⟩
  rw [Nat.add_sub_cancel_left]
  unfold abD
  rw [List.range_add, List.filter_append, List.filter_map]
  have h1 : (List.range v.length).filter (fun i => decide (v.length + d < i + nodes sig (v ++ r) i)) = [] := by
    rw [List.filter_eq_nil_iff]
    intro i hi
    have hi := List.mem_range.1 hi
    have h2 := at_place ha h hi
    rw [nodes_app ha h hi]
    simp
    omega
  rw [h1, List.nil_append]
  congr 1
  refine List.filter_congr fun i _ => ?_
  simp only [Function.comp]
  rw [nodes_behind]
  simp
  omega

theorem abD_in {sig : List Sy} (ha : ArOk sig) {v : List Int} (h : rowE sig v = 0) (r : List Int) {q : Nat} (hq : q < v.length) : abD sig (v ++ r) q = abD sig v q := by
  unfold abD
  refine List.filter_congr fun i hi => ?_
  rw [nodes_app ha h (by have := List.mem_range.1 hi; omega)]

theorem abD_cons {sig : List Sy} {c : Int} {r : List Int} (h : rowE sig (c :: r) = 0) {q : Nat} (hq : q < r.length) : abD sig (c :: r) (q + 1) = 0 :: (abD sig r q).map (1 + ·) := by
  unfold abD
  rw [Nat.add_comm q 1, List.range_add, List.filter_append, List.filter_map]
  have h1 : (List.range 1).filter (fun i => decide (1 + q < i + nodes sig (c :: r) i)) = [0] := by
    have : List.range 1 = [0] := rfl
    rw [this, List.filter_cons_of_pos (by rw [nodes_root h]; simp; omega)]
    rfl
  rw [h1, List.singleton_append]
  congr 2
  refine List.filter_congr fun i _ => ?_
  simp only [Function.comp]
  have := nodes_behind (sig := sig) [c] r i
  simp only [List.singleton_append, List.length_singleton] at this
  rw [this]
  simp
  omega

/-- What is found above a place by going down the tree. -/
theorem abv_eq {sig : List Sy} (ha : ArOk sig) : ∀ (N : Nat) (u : List Int), u.length ≤ N → rowE sig u = 0 → ∀ (T : Tr) (p q : Nat), growR sig u = [T] → q < u.length → abv T p (p + q) = (abD sig u q).map (fun i => ((p + i : Nat) : Int))
  | 0, u, hN, h, T, p, q, _, hq => by omega
  | N + 1, [], hN, h, T, p, q, _, hq => by simp at hq
  | N + 1, c :: r, hN, h, T, p, q, hT, hq => by
    by_cases hc : c < 0
    · have h1 := row_first.1 h
      have hr : r = [] := by
        rw [firstT_cons] at h1
        cases hd : codeD sig c with
        | none => rw [hd] at h1; simp at h1
        | some e =>
          rw [hd] at h1
          unfold codeD at hd
          split at hd
          · cases hd
          · cases hd
            simp at h1
            exact List.eq_nil_of_length_eq_zero (by omega)
      subst hr
      obtain rfl : q = 0 := by simp at hq; omega
      have : T = .var := by
        have h2 : growStep sig [] c = [T] := hT
        unfold growStep at h2
        rw [if_pos hc] at h2
        simp at h2
        exact h2.symm
      subst this
      simp [abv, abD]
    · obtain ⟨us, _, hr, hus, hg⟩ := kids_tree ha h hc
      rw [hg] at hT
      simp only [List.cons.injEq, and_true] at hT
      subst hT
      have hlen : ∀ u ∈ us, u.length ≤ N := fun u hu => by
        have h1 : u.length ≤ us.flatten.length := List.Sublist.length_le (List.sublist_flatten_of_mem hu)
        rw [← hr] at h1
        simp at hN
        omega
      -- the arguments, one behind the other
      have key : ∀ (vs : List (List Int)), (∀ u ∈ vs, rowE sig u = 0) → (∀ u ∈ vs, u.length ≤ N) → ∀ p q : Nat, q < vs.flatten.length → abvs (vs.flatMap (growR sig)) p (p + q) = (abD sig vs.flatten q).map (fun i => ((p + i : Nat) : Int)) := by
        intro vs
        induction vs with
        | nil => intro _ _ p q hq; simp at hq
        | cons v vs ih =>
          intro hv hl p q hq
          obtain ⟨T, h1, h2⟩ := grow_one ha (hv v (by simp))
          rw [List.flatMap_cons, h1, List.flatten_cons]
          show abvs (T :: vs.flatMap (growR sig)) p (p + q) = _
          unfold abvs
          rw [h2]
          by_cases hqv : v.length ≤ q
          · rw [if_pos (by omega), abD_far ha (hv v (by simp)) _ hqv, show p + q = p + v.length + (q - v.length) by omega,
              ih (fun u hu => hv u (by simp [hu])) (fun u hu => hl u (by simp [hu])) (p + v.length) (q - v.length) (by rw [List.flatten_cons, List.length_append] at hq; omega), List.map_map]
            refine List.map_congr_left fun i _ => ?_
            simp only [Function.comp]
            rw [Nat.add_assoc]
          · rw [if_neg (by omega), abD_in ha (hv v (by simp)) _ (by omega)]
            exact abv_eq ha N v (hl v (by simp)) (hv v (by simp)) T p q h1 (by omega)
      unfold abv
      cases q with
      | zero => simp [abD]
      | succ q =>
        have hq2 : q < us.flatten.length := by rw [← hr]; simpa using hq
        rw [if_neg (by omega), abD_cons h (by simpa using hq), show p + (q + 1) = p + 1 + q by omega, key us hus hlen (p + 1) q hq2, hr, List.map_cons, List.map_map]
        congr 1
        refine List.map_congr_left fun i _ => ?_
        simp only [Function.comp]
        rw [Nat.add_assoc]

/-- The arguments' places, found one by one. -/
def kidsD (sig : List Sy) (t : List Int) : Nat → Nat → List Int
  | 0, _ => []
  | n + 1, k => (k : Int) :: kidsD sig t n (k + nodes sig t k)

theorem kidsD_places {sig : List Sy} (t : List Int) : ∀ (us : List (List Int)) (k : Nat) (q : List Int), (∀ u ∈ us, rowE sig u = 0) → t.drop k = us.flatten ++ q → kidsD sig t us.length k = places k (us.map List.length)
  | [], _, _, _, _ => rfl
  | u :: us, k, q, h, ht => by
    have h0 := h u (by simp)
    have h1 : nodes sig t k = u.length := by
      unfold nodes
      rw [ht, List.flatten_cons, List.append_assoc, first_more _ u 1 0 (u.length : Int) (by rw [row_first.1 h0])]
      simp
    show (k : Int) :: kidsD sig t us.length (k + nodes sig t k) = (k : Int) :: places (k + u.length) (us.map List.length)
    rw [h1, kidsD_places t us (k + u.length) q (fun x hx => h x (by simp [hx]))]
    rw [← List.drop_drop, ht, List.flatten_cons, List.append_assoc, List.drop_left]

/-- Kids, found one by one. -/
theorem kids_eq {sig : List Sy} {t : List Int} {k : Nat} {c : Int} (h : placeE sig t k = 0) (hc : t[k]? = some c) : kidsL sig t k = if c < 0 then [] else kidsD sig t (arN sig c) (k + 1) := by
  obtain ⟨ha, hr, k', m, hk, hkl, hm1, hend, hkm, hsub, hrow⟩ := placeE_ok h
  obtain rfl : k = k' := by omega
  have hd := drop_get hc
  obtain ⟨m', rfl⟩ : ∃ m', m = m' + 1 := ⟨m - 1, by omega⟩
  rw [hd, List.take_succ_cons] at hsub hrow
  unfold kidsL
  rw [hsub, Int.toNat_natCast]
  by_cases h0 : c < 0
  · rw [if_pos h0]
    obtain ⟨T, hT, _⟩ := grow_one ha hrow
    rw [hT]
    have hT2 : growStep sig (growR sig ((t.drop (k + 1)).take m')) c = [T] := hT
    unfold growStep at hT2
    rw [if_pos h0] at hT2
    have h2 := congrArg List.length hT2
    rw [List.length_append] at h2
    simp only [List.length_cons, List.length_nil] at h2
    have h3 : growR sig ((t.drop (k + 1)).take m') = [] := List.eq_nil_of_length_eq_zero (by omega)
    rw [h3] at hT2
    simp only [List.nil_append, List.cons.injEq, and_true] at hT2
    subst hT2
    rfl
  · rw [if_neg h0]
    obtain ⟨us, u1, u2, u3, u4⟩ := kids_tree ha hrow h0
    rw [u4]
    show kidsGo (k + 1) (us.flatMap (growR sig)) = _
    rw [kids_places, ← grow_map ha us u3, grow_flat ha us u3, ← u1]
    refine (kidsD_places t us (k + 1) ((t.drop (k + 1)).drop m') u3 ?_).symm
    rw [← u2, List.take_append_drop]

end Go.Proofs.YtgpbnbmjgcchfaaGreatDoor

/- argumentPairs walked. -/
namespace Go.Proofs.YtgpbnbmjgcchfaaGreatDoor
open Go.RowKit Go.Maps Go.BigFrame

/-- The tree is that of the term at a place of a row. -/
def Wf (sig : List Sy) (r : List Int) (T : Tr) (q : Nat) : Prop := ∃ u rest, r.drop q = u ++ rest ∧ rowE sig u = 0 ∧ growR sig u = [T]

theorem Wf.size {sig : List Sy} {r : List Int} {T : Tr} {q : Nat} (h : Wf sig r T q) : q + T.size ≤ r.length := by
  obtain ⟨u, rest, h1, h2, h3⟩ := h
  have h4 := growR_sizes sig u
  rw [h3] at h4
  have h5 := congrArg List.length h1
  have h6 := T.pos
  simp only [List.length_drop, List.length_append, sizes] at h4 h5
  omega

theorem Wf.row {sig : List Sy} {r : List Int} {T : Tr} {q : Nat} (h : Wf sig r T q) : rowE sig ((r.drop q).take T.size) = 0 ∧ growR sig ((r.drop q).take T.size) = [T] := by
  obtain ⟨u, rest, h1, h2, h3⟩ := h
  have h4 := growR_sizes sig u
  rw [h3] at h4
  simp only [sizes] at h4
  have h5 : (r.drop q).take T.size = u := by rw [h1, show T.size = u.length by omega, List.take_left]
  rw [h5]
  exact ⟨h2, h3⟩

theorem drop_head {r : List Int} {q : Nat} {c : Int} {l : List Int} (h : r.drop q = c :: l) : r[q]? = some c ∧ r.drop (q + 1) = l := by
  constructor
  · have := congrArg (·[0]?) h
    simpa [List.getElem?_drop] using this
  · rw [← List.drop_drop, h]
    rfl

theorem Wf.var {sig : List Sy} {r : List Int} {q : Nat} (h : Wf sig r .var q) : ∃ c, r[q]? = some c ∧ c < 0 := by
  obtain ⟨u, rest, h1, h2, h3⟩ := h
  cases u with
  | nil => simp [rowE, firstT] at h2
  | cons c u =>
    rw [List.cons_append] at h1
    refine ⟨c, (drop_head h1).1, ?_⟩
    by_cases hc : c < 0
    · exact hc
    · have h4 : growStep sig (growR sig u) c = [.var] := h3
      unfold growStep at h4
      rw [if_neg hc] at h4
      have h5 := congrArg List.getLast? h4
      simp at h5

theorem Wf.app {sig : List Sy} (ha : ArOk sig) {r : List Int} {ts : List Tr} {q : Nat} (h : Wf sig r (.app ts) q) : ∃ c, r[q]? = some c ∧ ¬ c < 0 ∧ ts.length = arN sig c ∧ ∀ (k : Nat) (t : Tr), ts[k]? = some t → Wf sig r t (q + 1 + sizes (ts.take k)) := by
  obtain ⟨u, rest, h1, h2, h3⟩ := h
  cases u with
  | nil => simp [rowE, firstT] at h2
  | cons c u =>
    rw [List.cons_append] at h1
    obtain ⟨h4, h5⟩ := drop_head h1
    have hc : ¬ c < 0 := fun hc => by
      have h6 : growStep sig (growR sig u) c = [.app ts] := h3
      unfold growStep at h6
      rw [if_pos hc] at h6
      have h7 := congrArg List.getLast? h6
      simp at h7
    obtain ⟨us, u1, u2, u3, u4⟩ := kids_tree ha h2 hc
    rw [h3] at u4
    simp only [List.cons.injEq, Tr.app.injEq, and_true] at u4
    have key : ∀ (vs : List (List Int)) (o : Nat) (q2 : List Int), (∀ u ∈ vs, rowE sig u = 0) → r.drop o = vs.flatten ++ q2 → (vs.flatMap (growR sig)).length = vs.length ∧ ∀ (k : Nat) (t : Tr), (vs.flatMap (growR sig))[k]? = some t → Wf sig r t (o + sizes ((vs.flatMap (growR sig)).take k)) := by
      intro vs
      induction vs with
      | nil => intro o q2 _ _; exact ⟨rfl, fun k t hk => by simp at hk⟩
      | cons v vs ih =>
        intro o q2 hv hd
        obtain ⟨T, e1, e2⟩ := grow_one ha (hv v (by simp))
        rw [List.flatten_cons, List.append_assoc] at hd
        have hd2 : r.drop (o + v.length) = vs.flatten ++ q2 := by rw [← List.drop_drop, hd, List.drop_left]
        obtain ⟨i1, i2⟩ := ih (o + v.length) q2 (fun u hu => hv u (by simp [hu])) hd2
        rw [List.flatMap_cons, e1]
        refine ⟨by simp [i1], fun k t hk => ?_⟩
        cases k with
        | zero =>
          simp only [List.singleton_append, List.getElem?_cons_zero, Option.some.injEq] at hk
          subst hk
          simp only [List.take_zero, sizes, Nat.add_zero]
          exact ⟨v, _, hd, hv v (by simp), e1⟩
        | succ k =>
          rw [List.singleton_append, List.getElem?_cons_succ] at hk
          have := i2 k t hk
          rw [List.singleton_append, List.take_succ_cons]
          simp only [sizes]
          rw [e2, ← Nat.add_assoc]
          exact this
    obtain ⟨k1, k2⟩ := key us (q + 1) rest u3 (by rw [h5, u2])
    rw [← u4] at k1 k2
    exact ⟨c, h4, hc, by rw [k1, u1], k2⟩

theorem under_appM : Tryz.prog.underlying 140 = some (.pointer 155) := by kernel_rfl

theorem zero_appM : (Tryz.prog.info? 140).map (·.zero) = some (some (.pointer none)) := by kernel_rfl

theorem as_appM (v : Value) (xT : TypeId) (ok : Bool) (w : World) : (Instr.typeAssert (.iface 140 v) xT 140 ok).run Tryz.prog w = .ok (if ok then .tuple #[v, .bool true] else v) w := by
  simp [Instr.typeAssert, run_underlying under_appM, go_sem, Result.andThen]

theorem as_notM (v : Value) (xT : TypeId) (w : World) : (Instr.typeAssert (.iface 134 v) xT 140 true).run Tryz.prog w = .ok (.tuple #[.pointer none, .bool false]) w := by
  obtain ⟨i, hi, hz⟩ : ∃ i, Tryz.prog.info? 140 = some i ∧ i.zero = some (.pointer none) := by
    have h := zero_appM
    cases hi : Tryz.prog.info? 140 with
    | none => rw [hi] at h; cases h
    | some i => rw [hi] at h; exact ⟨i, rfl, by simpa using h⟩
  simp [Instr.typeAssert, run_underlying under_appM, go_sem, Result.andThen, zeroValue, typeInfo, hi, hz]

theorem args_cell {w : World} {A : Nat → Prop} {S : Nat → Nat → Value} {ts : List Tr} {p : Nat} {a : Option Addr} (h : ts = [] ∨ ∃ g off, a = some ⟨g, off, none⟩ ∧ A g ∧ TPs w A S g off ts p) {k : Nat} {t : Tr} (hk : ts[k]? = some t) : ∃ g off v, a = some ⟨g, off, none⟩ ∧ A g ∧ w.cell? ⟨g, off + k, none⟩ = some v ∧ TP w A S v t (p + sizes (ts.take k)) := by
  rcases h with rfl | ⟨g, off, h1, h2, h3⟩
  · simp at hk
  · obtain ⟨v, h4, h5⟩ := h3.get hk
    exact ⟨g, off, v, h1, h2, h4, h5⟩

theorem TPl.snoc {w : World} {A : Nat → Prop} {S : Nat → Nat → Value} : ∀ {vs : List Value} {ts : List Tr} {p : Nat} {v : Value} {t : Tr}, TPl w A S vs ts p → TP w A S v t (p + sizes ts) → TPl w A S (vs ++ [v]) (ts ++ [t]) p
  | [], [], p, v, t, _, h => by
    simp only [sizes, Nat.add_zero] at h
    exact ⟨h, trivial⟩
  | _ :: _, x :: ts, p, v, t, ⟨h1, h2⟩, h => by
    refine ⟨h1, TPl.snoc h2 ?_⟩
    simp only [sizes] at h
    rw [Nat.add_assoc]
    exact h
  | [], _ :: _, _, _, _, h, _ => h.elim
  | _ :: _, [], _, _, _, h, _ => h.elim

set_option maxRecDepth 100000 in
set_option maxHeartbeats 1600000 in
theorem argumentPairs_any (A : Nat → Prop) (b1 o1 c1 b2 o2 c2 q1 q2 : Nat) (x1 x2 : Int) (B1 : Nat) (ts1 : List Tr) (T2 : Tr) (v2 : Value) (w : World)
    (h1 : TP w A (cdS b1 o1 c1) (.iface 140 (.pointer (some ⟨B1, 0, none⟩))) (.app ts1) q1) (h2 : TP w A (cdS b2 o2 c2) v2 T2 q2) (hA : ∀ b, A b → b < w.heap.size)
    (hx1 : w.cell? ⟨b1, o1 + q1, none⟩ = some (.int .i64 x1)) (hx2 : w.cell? ⟨b2, o2 + q2, none⟩ = some (.int .i64 x2)) (hlen : ∀ ts2, T2 = .app ts2 → x1 = x2 → ts2.length = ts1.length) (hl : ts1.length * 32 ≤ 140737488351232) :
    Calls Tryz.prog 89 #[.pointer (some ⟨B1, 0, none⟩), v2] w fun e w' => ∃ v' xs ok, e = .returned (.tuple #[v', .bool ok]) ∧ OwP w' w.heap.size v' xs ∧ Below w.heap.size w w' ∧
      ((ok = false ∧ (T2 = .var ∨ x1 ≠ x2)) ∨ (ok = true ∧ ∃ ts2, T2 = .app ts2 ∧ x1 = x2 ∧ TPl w' A (cdS b1 o1 c1) (xs.map (·.1)) ts1 (q1 + 1) ∧ TPl w' A (cdS b2 o2 c2) (xs.map (·.2)) ts2 (q2 + 1))) := by
  unfold TP at h1
  obtain ⟨B, a1, cp1, e1, hB1, hc10, hc11, hl1, hm1, hargs1⟩ := h1
  simp only [Value.iface.injEq, Value.pointer.injEq, Option.some.injEq, Addr.mk.injEq, and_true, true_and] at e1
  subst e1
  unfold maxLen at hm1
  cases T2 with
  | var =>
    unfold TP at h2
    subst h2
    have has := as_notM
    clear hargs1
    go_enter Tryz.func89, Tryz.ntmps89
    go_wp2
    go_ret2
    exact ⟨_, [], false, rfl, World.ownsRow_nil _ _ _ _, Below.refl _ _, .inl ⟨rfl, .inl trivial⟩⟩
  | app ts2 =>
    unfold TP at h2
    obtain ⟨B2, a2, cp2, rfl, hB2, hc20, hc21, hl2, hm2, hargs2⟩ := h2
    unfold maxLen at hm2
    have has := as_appM (.pointer (some ⟨B2, 0, none⟩)) 115 true
    simp only [if_true] at has
    have HA := hid hA
    have HR1 := hid hargs1
    have HR2 := hid hargs2
    have HC10 := hid hc10
    have HC20 := hid hc20
    have HX1 := hid hx1
    have HX2 := hid hx2
    clear hA hargs1 hargs2 hx1 hx2 hc10 hc20
    go_enter Tryz.func89, Tryz.ntmps89
    go_wp2_with fail
    clear has
    refine (symbol_any B2 b2 o2 c2 q2 (sizes ts2) x2 w HC20.out HX2.out).mono ?_
    rintro e w9 ⟨rfl, hw9⟩
    have hw8 := hw9.symm
    subst hw8
    clear hw9
    go_wp2_with fail
    refine (symbol_any B1 b1 o1 c1 q1 (sizes ts1) x1 w HC10.out HX1.out).mono ?_
    rintro e w9 ⟨rfl, hw9⟩
    have hw8 := hw9.symm
    subst hw8
    clear hw9
    by_cases hxx : x1 = x2
    · have hne : (x2 != x1) = false := by simp [hxx]
      have HX := hid hxx
      have hln := hlen ts2 rfl hxx
      have HLn := hid hln
      clear hxx hlen hln
      go_wp2
      clear hne
      go_loopw [8, 30] (fun x iv wr => ∃ (k : Nat) (xs : List (Value × Value)), k ≤ ts1.length ∧ iv = .int .i64 k ∧ xs.length = k ∧ OwP wr w.heap.size x xs ∧ Below w.heap.size w wr ∧ TPl w A (cdS b1 o1 c1) (xs.map (·.1)) (ts1.take k) (q1 + 1) ∧ TPl w A (cdS b2 o2 c2) (xs.map (·.2)) (ts2.take k) (q2 + 1)) (fun _ iv _ => ts1.length - (intOf iv).toNat)
      case atStart => exact ⟨0, [], Nat.zero_le _, rfl, rfl, World.ownsRow_nil _ _ _ _, Below.refl _ _, trivial, trivial⟩
      case round =>
        obtain ⟨k, xs, hk, rfl, hxl, how, hbl, ht1, ht2⟩ := hrel
        have HO := hid how
        have HB := hid hbl
        have HT1 := hid ht1
        have HT2 := hid ht2
        have HXl := hid hxl
        clear how ht1 ht2 hxl
        by_cases hlt : k < ts1.length
        · obtain ⟨t1, htk1⟩ : ∃ t, ts1[k]? = some t := ⟨_, List.getElem?_eq_getElem hlt⟩
          obtain ⟨t2, htk2⟩ : ∃ t, ts2[k]? = some t := ⟨_, List.getElem?_eq_getElem (by have := HLn.out; omega)⟩
          obtain ⟨g1, f1, u1, rfl, hg1, hu1, hp1⟩ := args_cell HR1.out htk1
          obtain ⟨g2, f2, u2, rfl, hg2, hu2, hp2⟩ := args_cell HR2.out htk2
          have hu1r := (hbl.cell (p := ⟨g1, f1 + k, none⟩) (HA.out g1 hg1)).trans hu1
          have hu2r := (hbl.cell (p := ⟨g2, f2 + k, none⟩) (HA.out g2 hg2)).trans hu2
          have hc21r := (hbl.cell (p := ⟨B2, 1, none⟩) (HA.out B2 hB2)).trans hc21
          have HP1 : Hid (TPl w A (cdS b1 o1 c1) ((xs ++ [(u1, u2)]).map (·.1)) (ts1.take (k + 1)) (q1 + 1)) := by
            rw [List.map_append, take_get htk1]
            exact TPl.snoc HT1.out hp1
          have HP2 : Hid (TPl w A (cdS b2 o2 c2) ((xs ++ [(u1, u2)]).map (·.2)) (ts2.take (k + 1)) (q2 + 1)) := by
            rw [List.map_append, take_get htk2]
            exact TPl.snoc HT2.out hp2
          obtain ⟨v6, w6, hr6, ho6, hg6, _⟩ := join_pairs 132 (w := wr.alloc (.cells #[u1, u2] 131)) (base := w.heap.size) (x := u8) (xs := xs) (ys := [(u1, u2)]) (ao := some ⟨wr.heap.size, 0, none⟩) (cap := 1)
            (ownsRow_later HO.out (below_alloc _)) (.inr ⟨wr.heap.size, 0, rfl, fun j u hj => by
              rw [Nat.zero_add]
              exact cell_new (by simpa [prC] using hj)⟩) (fun u hu => by
              simp [prC] at hu
              rcases hu with rfl | rfl
              · exact hp1.ifv.one
              · exact hp2.ifv.one) (Nat.le_trans hbl.size (below_alloc _).size) (by rw [HXl.out]; simp; omega)
          have hb6 := (below_step hbl (below_alloc (.cells #[u1, u2] 131))).grown hg6 (Nat.le_trans hbl.size (below_alloc _).size) (fun j hj => own_blk HO.out hj)
          have HR6 := hid hr6
          have HO6 := hid ho6
          have HB6 := hid hb6
          have HXl2 : Hid ((xs ++ [(u1, u2)]).length = k + 1) := by show _ = _; rw [List.length_append, HXl.out]; rfl
          have hk2 : k < ts2.length := by have := HLn.out; omega
          obtain ⟨y1, z1, hy1⟩ := hp1.ifv
          obtain ⟨y2, z2, hy2⟩ := hp2.ifv
          subst hy1
          subst hy2
          clear hr6 ho6 hg6 hb6 hu1 hu2 hp1 hp2 htk1 htk2 hbl
          go_wp2_with (first
            | (at_builtin; refine wpList_append_run rfl _ _ _ rfl _ _ rfl rfl HR6.out ?_))
          go_roundw
          case rel => exact ⟨k + 1, _, by omega, by go_num, HXl2.out, HO6.out, HB6.out, HP1.out, HP2.out⟩
          case measure => simp [intOf]; omega
        · have hke : k = ts1.length := by omega
          subst hke
          have hT1 := HT1.out
          have hT2 := HT2.out
          rw [List.take_length] at hT1
          rw [← HLn.out, List.take_length] at hT2
          have HF1 := hid (hT1.keep (A' := A) (fun b o x hb hx => (Kp.of_below hbl).cell _ _ hx) (fun b hb => hb))
          have HF2 := hid (hT2.keep (A' := A) (fun b o x hb hx => (Kp.of_below hbl).cell _ _ hx) (fun b hb => hb))
          clear hT1 hT2
          go_wp2
          go_ret2
          exact ⟨_, xs, true, rfl, HO.out, HB.out, .inr ⟨rfl, ts2, rfl, HX.out, HF1.out, HF2.out⟩⟩
    · have hne : (x2 != x1) = true := by rw [bne_iff_ne]; exact fun e => hxx e.symm
      have HX := hid hxx
      clear hxx hlen
      go_wp2
      go_ret2
      exact ⟨_, [], false, rfl, World.ownsRow_nil _ _ _ _, Below.refl _ _, .inl ⟨rfl, .inr HX.out⟩⟩

end Go.Proofs.YtgpbnbmjgcchfaaGreatDoor

/- The document's End and place walked. -/
namespace Go.Proofs.YtgpbnbmjgcchfaaGreatDoor
open Go.RowKit Go.Maps Go.BigFrame

theorem codeD_neg {sig : List Sy} {c e : Int} (h : codeD sig c = some e) (hc : c < 0) : e = -1 := by
  unfold codeD at h
  split at h
  · cases h
  · first
    | (rw [if_pos hc] at h; cases h; rfl)
    | (cases h; rfl)

theorem codeD_get {sig : List Sy} {c : Nat} {e : Int} (h : codeD sig (c : Int) = some e) : ∃ s, sig[c]? = some s ∧ e = s.2 - 1 := by
  unfold codeD at h
  rw [if_neg (by omega), if_neg (by omega), Int.toNat_natCast] at h
  cases hs : sig[c]? with
  | none => rw [hs] at h; cases h
  | some s =>
    rw [hs] at h
    cases h
    exact ⟨s, rfl, rfl⟩

/-- What is wrong with a place. -/
theorem place_eq {sig : List Sy} {t : List Int} {p : Int} (h : termE sig t = 0) : placeE sig t p = if p < 0 ∨ (t.length : Int) ≤ p then 33 else 0 := by
  unfold placeE
  rw [if_pos h]
  unfold endP
  by_cases hp : p < 0 ∨ (t.length : Int) ≤ p
  · rw [if_pos hp, if_pos hp]
  · rw [if_neg hp, if_neg hp]
    obtain ⟨k, rfl⟩ : ∃ k : Nat, p = k := ⟨p.toNat, by omega⟩
    have hk : k < t.length := by omega
    obtain ⟨h1, h2⟩ := term_parts h
    obtain ⟨_, _, h3, _⟩ := at_place (sigE_ok h1) h2 hk
    rw [Int.toNat_natCast, h3]

theorem place_in {sig : List Sy} {t : List Int} {k : Nat} (h : termE sig t = 0) (hk : k < t.length) : placeE sig t k = 0 := by
  rw [place_eq h, if_neg (by omega)]

theorem place_end {sig : List Sy} {t : List Int} {k : Nat} (h : termE sig t = 0) (hk : k < t.length) : endP sig t k = (((k + nodes sig t k : Nat) : Int), 0) := by
  obtain ⟨h1, h2⟩ := term_parts h
  obtain ⟨_, _, h3, _⟩ := at_place (sigE_ok h1) h2 hk
  unfold endP
  rw [if_neg (by omega), Int.toNat_natCast, h3]
  simp only [Prod.mk.injEq, and_true]
  omega

theorem sub_eq {sig : List Sy} {t : List Int} {k : Nat} (h : termE sig t = 0) (hk : k < t.length) : subL sig t k = (t.drop k).take (nodes sig t k) := by
  unfold subL
  rw [if_pos (place_in h hk), place_end h hk, Int.toNat_natCast, Int.toNat_natCast, show k + nodes sig t k - k = nodes sig t k by omega]

end Go.Proofs.YtgpbnbmjgcchfaaGreatDoor

/- The document's Kids, Sub, Above, Vars walked. -/
namespace Go.Proofs.YtgpbnbmjgcchfaaGreatDoor
open Go.RowKit Go.Maps Go.BigFrame

/-- A symbol's arguments, where they stand. -/
theorem kids_parts {sig : List Sy} {t : List Int} {k : Nat} {c : Int} (h : placeE sig t k = 0) (hc : t[k]? = some c) (h0 : ¬ c < 0) :
    ∃ (us : List (List Int)) (q : List Int), us.length = arN sig c ∧ t.drop (k + 1) = us.flatten ++ q ∧ (∀ u ∈ us, rowE sig u = 0) ∧ kidsL sig t k = places (k + 1) (us.map List.length) := by
  obtain ⟨ha, hr, k', m, hk, hkl, hm1, hend, hkm, hsub, hrow⟩ := placeE_ok h
  obtain rfl : k = k' := by omega
  have hd := drop_get hc
  obtain ⟨m', rfl⟩ : ∃ m', m = m' + 1 := ⟨m - 1, by omega⟩
  rw [hd, List.take_succ_cons] at hsub hrow
  obtain ⟨us, u1, u2, u3, u4⟩ := kids_tree ha hrow h0
  refine ⟨us, (t.drop (k + 1)).drop m', u1, by rw [← u2, List.take_append_drop], u3, ?_⟩
  unfold kidsL
  rw [hsub, Int.toNat_natCast, u4]
  show kidsGo (k + 1) (us.flatMap (growR sig)) = _
  rw [kids_places, ← grow_map ha us u3, grow_flat ha us u3]

theorem kids_var {sig : List Sy} {t : List Int} {k : Nat} {c : Int} (h : placeE sig t k = 0) (hc : t[k]? = some c) (h0 : c < 0) : kidsL sig t k = [] := by
  rw [kids_eq h hc, if_pos h0]

theorem drop_next {us : List (List Int)} {i : Nat} {u : List Int} (h : us[i]? = some u) (q : List Int) : (us.drop i).flatten ++ q = u ++ ((us.drop (i + 1)).flatten ++ q) := by
  rw [drop_get h, List.flatten_cons, List.append_assoc]

theorem first_right {sig : List Sy} {u : List Int} (h : rowE sig u = 0) (q : List Int) : firstT sig 1 0 (u ++ q) = ((u.length : Int), 0) := first_more q u 1 0 _ (by rw [row_first.1 h])

theorem place_term {sig : List Sy} {t : List Int} {p : Int} (h : placeE sig t p = 0) : termE sig t = 0 := by
  unfold placeE at h
  by_cases ht : termE sig t = 0
  · exact ht
  · rw [if_neg ht] at h; exact h

/-- The places above a place, as they are told. -/
def aboveL (sig : List Sy) (t : List Int) (p : Int) : List Int := if placeE sig t p = 0 then (abD sig t p.toNat).map fun i : Nat => (i : Int) else []

end Go.Proofs.YtgpbnbmjgcchfaaGreatDoor
