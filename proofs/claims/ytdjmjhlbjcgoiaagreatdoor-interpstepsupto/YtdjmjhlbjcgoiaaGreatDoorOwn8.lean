/- Texts of the proof, one behind the other. -/
import Derived.Test.YtdjmjhlbjcgoiaaGreatDoorOwn7
import Derived.Shelf.SlGeneric
import Derived.Ground.SlsfProg
import Derived.Test.YtdjmjhlbjcgoiaaGreatDoorOwn2
import Derived.Deep.CutBlock
import Derived.Great.BuildSlice
import Derived.Deep.MidRow
import Derived.Deep.RegionHeldLaw
import Derived.Maps.AppendAt
set_option maxRecDepth 1000000
set_option maxHeartbeats 6400000
namespace Go.Proofs
open Go.Shelf Go.RowKit Go.Lib Go.Sort
def Tryz.sortLay_ren : Go.Shelf.Ren := ⟨fun | 6 => 118 | 15 => 156 | 14 => 157 | 28 => 179 | 29 => 180 | 20 => 181 | 21 => 182 | 22 => 183 | 23 => 184 | 24 => 185 | 25 => 186 | 26 => 187 | 27 => 188 | 46 => 198 | 47 => 199 | 48 => 200 | 49 => 201 | 50 => 202 | 57 => 216 | n => n, fun | 22 => 165 | 24 => 160 | 25 => 169 | 3 => 3 | 39 => 204 | 0 => 0 | 53 => 38 | 55 => 207 | 4 => 4 | 46 => 240 | 45 => 239 | 50 => 180 | 5 => 5 | 9 => 9 | 66 => 256 | 70 => 260 | 76 => 267 | 77 => 268 | n => n, fun | n => n⟩
theorem Tryz.sortLay : Go.Proofs.SlLaysF0.n6 Tryz.prog Tryz.sortLay_ren := {
  mixed := by kernel_rfl
  f6 := ⟨Tryz.f118.name, by decide, Tryz.func118.trans (congrArg some (by kernel_rfl))⟩
  f14 := ⟨Tryz.f157.name, by decide, Tryz.func157.trans (congrArg some (by kernel_rfl))⟩
  f15 := Tryz.func156.trans (congrArg some (by kernel_rfl))
  f20 := ⟨Tryz.f181.name, by decide, Tryz.func181.trans (congrArg some (by kernel_rfl))⟩
  f21 := ⟨Tryz.f182.name, by decide, Tryz.func182.trans (congrArg some (by kernel_rfl))⟩
  f22 := ⟨Tryz.f183.name, by decide, Tryz.func183.trans (congrArg some (by kernel_rfl))⟩
  f23 := ⟨Tryz.f184.name, by decide, Tryz.func184.trans (congrArg some (by kernel_rfl))⟩
  f24 := ⟨Tryz.f185.name, by decide, Tryz.func185.trans (congrArg some (by kernel_rfl))⟩
  f25 := ⟨Tryz.f186.name, by decide, Tryz.func186.trans (congrArg some (by kernel_rfl))⟩
  f26 := ⟨Tryz.f187.name, by decide, Tryz.func187.trans (congrArg some (by kernel_rfl))⟩
  f27 := ⟨Tryz.f188.name, by decide, Tryz.func188.trans (congrArg some (by kernel_rfl))⟩
  f28 := Tryz.func179.trans (congrArg some (by kernel_rfl))
  f29 := Tryz.func180.trans (congrArg some (by kernel_rfl))
  f46 := ⟨Tryz.f198.name, by decide, Tryz.func198.trans (congrArg some (by kernel_rfl))⟩
  f47 := Tryz.func199.trans (congrArg some (by kernel_rfl))
  f48 := Tryz.func200.trans (congrArg some (by kernel_rfl))
  f49 := ⟨Tryz.f201.name, by decide, Tryz.func201.trans (congrArg some (by kernel_rfl))⟩
  f50 := ⟨Tryz.f202.name, by decide, Tryz.func202.trans (congrArg some (by kernel_rfl))⟩
  f57 := ⟨Tryz.f216.name, by decide, Tryz.func216.trans (congrArg some (by kernel_rfl))⟩
  t0 := Tryz.underlying0
  a0 := Tryz.isAgg0
  z0 := Tryz.sizeOf0
  v0 := Tryz.zeroValue0
  t3 := Tryz.underlying3
  a3 := Tryz.isAgg3
  z3 := Tryz.sizeOf3
  v3 := Tryz.zeroValue3
  t4 := Tryz.underlying4
  a4 := Tryz.isAgg4
  z4 := Tryz.sizeOf4
  v4 := Tryz.zeroValue4
  t5 := Tryz.underlying5
  a5 := Tryz.isAgg5
  z5 := Tryz.sizeOf5
  v5 := Tryz.zeroValue5
  t9 := Tryz.underlying9
  a9 := Tryz.isAgg9
  z9 := Tryz.sizeOf9
  v9 := Tryz.zeroValue9
  t22 := Tryz.underlying165
  a22 := Tryz.isAgg165
  z22 := Tryz.sizeOf165
  v22 := Tryz.zeroValue165
  t25 := Tryz.underlying169
  a25 := Tryz.isAgg169
  z25 := Tryz.sizeOf169
  v25 := Tryz.zeroValue169
  t39 := Tryz.underlying204
  a39 := Tryz.isAgg204
  z39 := Tryz.sizeOf204
  v39 := Tryz.zeroValue204
  t45 := Tryz.underlying239
  a45 := Tryz.isAgg239
  z45 := Tryz.sizeOf239
  v45 := Tryz.zeroValue239
  t46 := Tryz.underlying240
  a46 := Tryz.isAgg240
  z46 := Tryz.sizeOf240
  v46 := Tryz.zeroValue240
  t50 := Tryz.underlying180
  a50 := Tryz.isAgg180
  z50 := Tryz.sizeOf180
  v50 := Tryz.zeroValue180
  t53 := Tryz.underlying38
  a53 := Tryz.isAgg38
  z53 := Tryz.sizeOf38
  v53 := Tryz.zeroValue38
  t55 := Tryz.underlying207
  a55 := Tryz.isAgg207
  z55 := Tryz.sizeOf207
  v55 := Tryz.zeroValue207
  t66 := Tryz.underlying256
  a66 := Tryz.isAgg256
  z66 := Tryz.sizeOf256
  v66 := Tryz.zeroValue256
  t70 := Tryz.underlying260
  a70 := Tryz.isAgg260
  z70 := Tryz.sizeOf260
  v70 := Tryz.zeroValue260
  t76 := Tryz.underlying267
  a76 := Tryz.isAgg267
  z76 := Tryz.sizeOf267
  v76 := Tryz.zeroValue267
  t77 := Tryz.underlying268
  a77 := Tryz.isAgg268
  z77 := Tryz.sizeOf268
  v77 := Tryz.zeroValue268 }
end Go.Proofs
namespace Go.Proofs.YtdjmjhlbjcgoiaaGreatDoor
open Go.RowKit Go.Maps Go.Sort
theorem closure_any (a b : List Nat) (W : World) (ha : WfK a) (hb : WfK b) :
  Calls Tryz.prog 119 #[.agg (arr a), .agg (arr b)] W fun e w' => e = .returned (.int .i64 (cmpK a b)) ∧ ∃ q os', w' = grow (W.drewN q) os' := by
 have HA : Hid (Ar ((W.alloc (.cells (arr a) 160)).alloc (.cells (arr b) 160)) W.heap.size a) := (Ar.new W a).later (zA _)
 have hB := Ar.new (W.alloc (.cells (arr a) 160)) b
 rw [show (W.alloc (.cells (arr a) 160)).heap.size = W.heap.size + 1 by simp] at hB
 have HB : Hid (Ar ((W.alloc (.cells (arr a) 160)).alloc (.cells (arr b) 160)) (W.heap.size + 1) b) := hB
 have Ha : Hid (WfK a) := ha
 have Hb : Hid (WfK b) := hb
 have hlen : Tryz.prog.arrayLen 160 = 512 := by kernel_rfl
 clear hB ha hb
 go_enter Tryz.func119, Tryz.ntmps119
 go_wp2
 go_quiet ((go_at_call 120; exact Calls.quiet_of_same (bytesCompare_any (w := World.drewN _ _) HA.out HB.out Ha.out Hb.out)))
 go_wp2
 go_ret
 refine ⟨rfl, nq, #[.cells (arr a) 160, .cells (arr b) 160], ?_⟩
 rw [alloc_eq_grow, alloc_eq_grow, grow_grow]
 rfl
def cellsL (ks : List Nat) : List Value := ks.map fun (x : Nat) => Value.int .u8 (x : Int)
theorem arr_cells (ks : List Nat) : arr ks = (cellsL ks).toArray := rfl
theorem xCJ {ks : List Nat} (h : WfK ks) : (cellsL ks).length = 512 := by simp [cellsL, h.1]
def OwK (w : World) (base : Nat) (v : Value) (kss : List (List Nat)) : Prop := w.ownsRow base 160 512 v kss.length (kss.flatMap cellsL)
theorem flat_get {kss : List (List Nat)} (hw : ∀ ks ∈ kss, WfK ks) : ∀ {i j : Nat} {ks : List Nat}, kss[i]? = some ks → j < 512 → (kss.flatMap cellsL)[i * 512 + j]? = (cellsL ks)[j]? := by
 induction kss with
 | nil => intro i j ks h; simp at h
 | cons a r ih =>
  intro i j ks h hj
  have hl := xCJ (hw a (by simp))
  rw [List.flatMap_cons]
  cases i with
  | zero =>
   simp only [yQ, zX] at h
   subst h
   rw [Nat.zero_mul, Nat.zero_add, zN (by omega)]
  | succ i =>
   rw [yP] at h
   rw [zM (by rw [hl]; omega), hl, show (i + 1) * 512 + j - 512 = i * 512 + j by omega]
   exact ih (fun k hk => hw k (by simp [hk])) h hj
theorem flat_lenY {kss : List (List Nat)} (hw : ∀ ks ∈ kss, WfK ks) : (kss.flatMap cellsL).length = kss.length * 512 := by
 induction kss with
 | nil => rfl
 | cons a r ih =>
  rw [List.flatMap_cons, zF, xCJ (hw a (by simp)), ih (fun k hk => hw k (by simp [hk])), zG]
  omega
def leK (a b : List Nat) : Bool := !decide (cmpK b a < 0)
abbrev KeyT := { ks : List Nat // WfK ks }
def encT (x : KeyT) : List Value := cellsL x.1
def cfT (x y : KeyT) : Int := cmpK x.1 y.1
theorem lt_of_cf (x y : KeyT) : ltOf cfT x y = decide (ltK x.1 y.1) := rfl
theorem swoT : SWO (ltOf cfT) where
 irrefl x := by rw [lt_of_cf]; exact decide_eq_false (xAS _)
 trans x y z h1 h2 := by
  rw [lt_of_cf] at *
  exact decide_eq_true (xBT (of_decide_eq_true h1) (of_decide_eq_true h2))
 ntrans x y z h1 h2 := by
  rw [lt_of_cf] at *
  have h1 := of_decide_eq_false h1
  have h2 := of_decide_eq_false h2
  refine decide_eq_false fun h => ?_
  by_cases e : x.1 = y.1
  ·rw [e] at h; exact h2 h
  exact h2 (xBT (ltK_or e h1) h)
theorem totT (x y : KeyT) (h1 : ltOf cfT x y = false) (h2 : ltOf cfT y x = false) : x = y := by
 rw [lt_of_cf] at *
 have h1 := of_decide_eq_false h1
 have h2 := of_decide_eq_false h2
 apply Subtype.ext
 by_cases e : x.1 = y.1
 ·exact e
 exact absurd (ltK_or e h1) h2
theorem heap_putRow {α : Type} [Inhabited α] (enc : α → Value) (w : World) (blk off : Nat) (d : Array α) {cur : Array Value} {e : TypeId} {fr : Nat × Nat} (h : w.heap[blk]? = some (.cells cur e fr)) :
  (putRow enc w blk off d).heap[blk]? = some (.cells (putCells enc off d cur) e fr) := by
 unfold putRow mapBlock
 simp [Array.getElem?_modify, h, onCells]
theorem heap_putRow_other {α : Type} [Inhabited α] (enc : α → Value) (w : World) (blk off k : Nat) (d : Array α) (h : k ≠ blk) : (putRow enc w blk off d).heap[k]? = w.heap[k]? := by
 unfold putRow mapBlock
 simp only [Array.getElem?_modify]
 rw [if_neg (fun e => h e.symm)]
end Go.Proofs.YtdjmjhlbjcgoiaaGreatDoor
namespace Go.Proofs.YtdjmjhlbjcgoiaaGreatDoor
open Go.RowKit Go.Maps Go.Sort Go.Shelf
theorem isAggK (w : World) : (isAgg 160).run Tryz.prog w = .ok true w := by kernel_rfl
theorem sizeOfK (w : World) : (Go.sizeOf 160).run Tryz.prog w = .ok 512 w := by kernel_rfl
theorem getE {α : Type} [Inhabited α] {d : Array α} {i : Nat} {x : α} (h : d.toList[i]? = some x) : d[i]! = x := by
 have : d[i]? = some x := by simpa using h
 rw [getElem!_def, this]
theorem flatK_get [Inhabited KeyT] (d : Array KeyT) {t : Nat} (ht : t < d.size * 512) : ((d.toList.map Subtype.val).flatMap cellsL)[t]? = some (flatK encT 512 d)[t]! := by
 have hi : t / 512 < d.size := by omega
 have hx : d.toList[t / 512]? = some d[t / 512] := by simp [hi]
 have hks : (d.toList.map Subtype.val)[t / 512]? = some d[t / 512].1 := by rw [zU, hx]; rfl
 have hw : ∀ ks ∈ d.toList.map Subtype.val, WfK ks := by
  intro ks hk
  obtain ⟨x, _, rfl⟩ := yL.1 hk
  exact x.2
 have := flat_get hw hks (j := t % 512) (by omega)
 rw [show t / 512 * 512 + t % 512 = t by omega] at this
 rw [this, get_flatK _ _ _ _ ht, getE hx]
 have hl : t % 512 < (encT d[t / 512]).length := by unfold encT; rw [xCJ d[t / 512].2]; omega
 have e1 : (encT d[t / 512])[t % 512]! = (encT d[t / 512])[t % 512] := getElem!_pos (encT d[t / 512]) (t % 512) hl
 rw [e1]
 exact zC hl
theorem sort_holds [Inhabited KeyT] {w : World} {base g cap : Nat} {d : Array KeyT} (h : OwK w base (.slice (some ⟨g, 0, none⟩) d.size cap) (d.toList.map Subtype.val)) : HoldsK encT 512 w g 0 d := by
 intro t ht
 have ht' : t < d.size * 512 := by simpa using ht
 have hl : (d.toList.map Subtype.val).length = d.size := by simp
 have h2 := h
 unfold OwK at h2
 rw [hl] at h2
 refine ⟨?_, by rw [Nat.zero_add]; exact World.ownsRow.frozenAt h2 t⟩
 rw [Nat.zero_add, World.ownsRow.cellAt h2 t ht']
 have := flatK_get d ht'
 rw [zB] at this
 obtain ⟨h3, h4⟩ := this
 simp [← h4]
theorem sortRow [Inhabited KeyT] {w : World} {base g cap : Nat} {d d' : Array KeyT} {n : Nat} {os : Array Obj} (h : OwK w base (.slice (some ⟨g, 0, none⟩) d.size cap) (d.toList.map Subtype.val)) (hs : d'.size = d.size) :
  OwK (sortWorldK encT 512 w g 0 n d' os) base (.slice (some ⟨g, 0, none⟩) d.size cap) (d'.toList.map Subtype.val) ∧ w.grownBy (sortWorldK encT 512 w g 0 n d' os) (some g) := by
 have hl : (d.toList.map Subtype.val).length = d.size := by simp
 have hl' : (d'.toList.map Subtype.val).length = d.size := by simp [hs]
 have hw' : ∀ ks ∈ d'.toList.map Subtype.val, WfK ks := by
  intro ks hk
  obtain ⟨x, _, rfl⟩ := yL.1 hk
  exact x.2
 rcases h.2 with ⟨hv, _⟩ | ⟨g', cap', cur, hv, hb, hg, hc, hm, hsz, ht⟩
 ·cases hv
 simp only [zZ, zX, Addr.mk.injEq, and_true, true_and, hl] at hv
 obtain ⟨rfl, rfl⟩ := hv
 have hglt := (zL.1 hg).1
 have hg2 : (Sort.ahead w n).heap[g]? = some (.cells cur 160 (0, 0)) := hg
 have hgg : (sortWorldK encT 512 w g 0 n d' os).heap[g]? = some (.cells (putCells id 0 (flatK encT 512 d') cur) 160 (0, 0)) := by
  unfold sortWorldK putRowK
  rw [heap_grow_old _ _ (by simpa using hglt)]
  exact heap_putRow id _ g 0 _ hg2
 refine ⟨⟨by rw [flat_lenY hw'], .inr ⟨g, cap, _, by rw [hl'], hb, hgg, by rw [hl']; rw [hl] at hc; exact hc, hm, by simpa [putCells] using hsz, ?_⟩⟩, ?_⟩
 ·rw [hl']
  apply List.ext_getElem?
  intro t
  by_cases htt : t < d.size * 512
  ·rw [List.getElem?_take_of_lt htt, flatK_get d' (by rw [hs]; exact htt)]
   have htc : t < cur.size := by rw [hsz]; rw [hl] at hc; have := Nat.mul_le_mul_right 512 hc; omega
   simp only [putCells, Array.toList_mapIdx, List.getElem?_mapIdx, size_flatK, hs]
   simp [htc, htt]
  rw [yO (by simp; omega), yO (by rw [flat_lenY hw', hl']; omega)]
 refine ⟨rfl, rfl, rfl, ?_, fun k hk hne => ?_⟩
 ·unfold sortWorldK putRowK grow
  simp [Sort.ahead]
 unfold sortWorldK putRowK
 rw [heap_grow_old _ _ (by simpa using hk), heap_putRow_other _ _ _ _ _ _ (by simpa using hne)]
 rfl
theorem sortKeys_any (kss : List (List Nat)) (v : Value) (w : World) (base : Nat) (hw : ∀ ks ∈ kss, WfK ks) (ho : OwK w base v kss) (hn : kss.length < 4611686018427387904) :
  Calls Tryz.prog 118 #[v, .func (.func 119) #[] #[]] w fun e w' => e = .returned (.tuple #[]) ∧ OwK w' base v (kss.mergeSort leK) ∧ w.grownBy w' v.ownBlock := by
 rcases ho.2 with ⟨rfl, h0⟩ | ⟨g, cap, cur, rfl, _⟩
 ·obtain rfl : kss = [] := zE h0
  have hcon := AnyF.slices_SortFunc_none Tryz.sortLay none 0 (.func (.func 119) #[] #[]) w
  change Calls Tryz.prog 118 _ _ _ at hcon
  refine hcon.mono ?_
  rintro e w' ⟨rfl, rfl⟩
  exact ⟨rfl, by simpa using ho, World.grownBy.refl _ _⟩
 letI hI : Inhabited KeyT := ⟨⟨zeros, xEY, fun j x hj => by have := zD hj; have := (List.mem_replicate.1 this).2; omega⟩⟩
 let d : Array KeyT := (kss.attachWith WfK hw).toArray
 have hd : d.toList.map Subtype.val = kss := by simp [d]
 have hds : d.size = kss.length := by simp [d]
 have eg : ∀ args w, (callFunc 119 args).run Tryz.prog w = .ok (.enter 119 args) w := enters_of Tryz.func119 (by kernel_rfl) rfl
 have hcmp : CmpLays Tryz.prog 119 #[] encT 512 cfT g 0 d.size w := fun m os dk _ x y => closure_any x.1 y.1 _ x.2 y.2
 have ho' : OwK w base (.slice (some ⟨g, 0, none⟩) d.size cap) (d.toList.map Subtype.val) := by rw [hd, hds]; exact ho
 have hblk : g < w.heap.size := by
  rcases ho.2 with ⟨hv, _⟩ | ⟨g', cap', cur', hv, _, hg, _⟩
  ·cases hv
  simp only [zZ, zX, Addr.mk.injEq, and_true] at hv
  rw [← hv.1] at hg
  exact (zL.1 hg).1
 have hcon := AnyQ.slices_SortFunc_total Tryz.sortLay 512 isAggK sizeOfK encT (fun x => xCJ x.2) (fun x u hu => by
  obtain ⟨n, _, rfl⟩ := yL.1 hu
  rfl) cfT swoT 119 #[] g 0 cap d w eg hcmp (sort_holds ho') hblk (by rw [hds]; exact hn) totT
 change Calls Tryz.prog 118 _ _ _ at hcon
 rw [hds] at hcon
 refine hcon.mono ?_
 rintro e w' ⟨rfl, n, os, rfl⟩
 have hr := sortRow (n := n) (os := os) (d' := (d.toList.mergeSort fun x y => !(ltOf cfT) y x).toArray) ho' (by simp)
 rw [hds] at hr
 have hmap : ((d.toList.mergeSort fun x y => !(ltOf cfT) y x).toArray.toList.map Subtype.val) = kss.mergeSort leK := by
  show (d.toList.mergeSort fun x y => !(ltOf cfT) y x).map Subtype.val = _
  have hm := List.map_mergeSort (r := fun x y => !(ltOf cfT) y x) (s := leK) (f := Subtype.val) (l := d.toList) (fun a _ b _ => rfl)
  rw [hm, hd]
 rw [hmap] at hr
 exact ⟨rfl, hr.1, hr.2⟩
def topK (ks : List Nat) : Nat := (ks.reverse.dropWhile (· == 0)).length
def unX (ks : List Nat) : List Int := (ks.take (topK ks)).map Int.ofNat
theorem topK_eq {ks : List Nat} {n : Nat} (hn : n ≤ ks.length) (h0 : ∀ j, n ≤ j → j < ks.length → ks[j]? = some 0) (h1 : n = 0 ∨ ∃ x, ks[n - 1]? = some x ∧ ¬ x = 0) : topK ks = n := by
 have hsplit : ks = ks.take n ++ List.replicate (ks.length - n) 0 := by
  apply List.ext_getElem?
  intro j
  by_cases hj : j < n
  ·rw [zN (by simp; omega), List.getElem?_take_of_lt hj]
  rw [zM (by simp; omega), List.getElem?_replicate]
  simp only [zH]
  by_cases hj2 : j < ks.length
  ·rw [h0 j (by omega) hj2, if_pos (by omega)]
  rw [if_neg (by omega), yO (by omega)]
 have hrev : ks.reverse = List.replicate (ks.length - n) 0 ++ (ks.take n).reverse := by
  conv => lhs; rw [hsplit]
  rw [List.reverse_append, List.reverse_replicate]
 unfold topK
 rw [hrev, List.dropWhile_append_of_pos (by intro a ha; have := (List.mem_replicate.1 ha).2; simp [this])]
 rcases h1 with rfl | ⟨x, hx, hne⟩
 ·simp
 have hpos : 0 < n ∨ n = 0 := by omega
 rcases hpos with hpos | rfl
 ·have ht : ks.take n = ks.take (n - 1) ++ [x] := by
   have := xAY hx
   rwa [show n - 1 + 1 = n by omega] at this
  rw [ht, List.reverse_append]
  have hb : (x == 0) = false := by simpa using hne
  simp only [List.reverse_cons, List.reverse_nil, yH, List.singleton_append, List.dropWhile_cons, hb, Bool.false_eq_true, if_false, zG, yX, zH]
  omega
 simp
theorem unX_keyX {es : List Int} (h : es.length ≤ 512) (h0 : ∀ (k : Nat) (x : Int), es[k]? = some x → 0 ≤ x) (h1 : es.length = 0 ∨ ∃ x, es[es.length - 1]? = some x ∧ ¬ x = 0) : unX (keyX es) = es := by
 have ht : topK (keyX es) = es.length := by
  refine topK_eq (by rw [xBB h]; exact h) (fun j hj hj2 => keyX_high hj (by rw [xBB h] at hj2; exact hj2)) ?_
  rcases h1 with h1 | ⟨x, hx, hne⟩
  ·exact .inl h1
  exact .inr ⟨x.toNat, keyX_get hx, by have := h0 _ _ hx; omega⟩
 unfold unX
 rw [ht]
 unfold keyX
 rw [List.take_left' (by simp), List.map_map]
 apply List.ext_getElem?
 intro k
 rw [zU]
 cases hk : es[k]? with
 | none => rfl
 | some x =>
  have := h0 k x hk
  simp [Function.comp]
  omega
theorem unpacked_any (ks : List Nat) (w : World) (hk : ks.length = 512) (hb : ∀ (j x : Nat), ks[j]? = some x → x < 256) :
  Calls Tryz.prog 121 #[.agg (arr ks)] w fun e w' => ∃ v', e = .returned v' ∧ OwI w' w.heap.size v' (unX ks) ∧ Below w.heap.size w w' := by
 obtain ⟨i0, hi, hz0, hz1, hz2⟩ := info_parts info_int
 have HK : Hid (ks.length = 512) := hk
 have HB : Hid (∀ (j x : Nat), ks[j]? = some x → x < 256) := hb
 clear hk hb
 go_enter Tryz.func121, Tryz.ntmps121
 go_wp2
 obtain ⟨wb, hwb⟩ : ∃ wb, wb = w.alloc (.cells (arr ks) 160) := ⟨_, rfl⟩
 have HA : Hid (Ar wb w.heap.size ks) := by rw [hwb]; exact Ar.new w ks
 have HBl : Hid (Below w.heap.size w wb) := by rw [hwb]; exact zA _
 have hszb : w.heap.size < wb.heap.size := HA.out.lt
 rw [← hwb]
 clear hwb
 go_loopw [3] (fun i wr => ∃ n : Nat, n ≤ 512 ∧ i = .int .i64 n ∧ (∀ j : Nat, n ≤ j → j < 512 → ks[j]? = some 0) ∧ wr = wb) (fun i _ => (intOf i).toNat)
 case atStart => exact ⟨512, by omega, rfl, fun j h1 h2 => absurd h1 (by omega), rfl⟩
 case round =>
  obtain ⟨n, hn, rfl, hp, hw⟩ := hrel
  have hw' := hw.symm
  subst hw'
  clear hw
  have HP : Hid (∀ j : Nat, n ≤ j → j < 512 → ks[j]? = some 0) := hp
  clear hp
  by_cases hcont : ∃ m, n = m + 1 ∧ ks[m]? = some 0
  ·obtain ⟨m, rfl, hx⟩ := hcont
   have hcell := HA.out.cell hx
   have HX : Hid (ks[m]? = some 0) := hx
   have hm5 : m < 512 := by omega
   clear hx
   go_wp2
   go_roundw
   case rel => exact ⟨m, by omega, by go_num, fun j h1 h2 => by
    by_cases hj : j = m
    ·subst hj; exact HX.out
    exact HP.out j (by omega) h2, trivial⟩
   case measure => simp [intOf]
  have hex : (decide (0 < n) = false ∧ n = 0) ∨ ∃ x, 0 < n ∧ ks[n - 1]? = some x ∧ ((x : Int) == 0) = false ∧ ¬ x = 0 := by
   by_cases hn0 : n = 0
   ·exact .inl ⟨by subst hn0; rfl, hn0⟩
   obtain ⟨x, hx⟩ : ∃ x, ks[n - 1]? = some x := xBL (by have := HK.out; omega)
   have hx0 : ¬ x = 0 := fun h => hcont ⟨n - 1, by omega, by rw [hx, h]⟩
   exact .inr ⟨x, by omega, hx, by rw [zY]; omega, hx0⟩
  have HT : Hid (topK ks = n) := by
   refine topK_eq (by rw [HK.out]; exact hn) (fun j h1 h2 => HP.out j h1 (by rw [HK.out] at h2; exact h2)) ?_
   rcases hex with ⟨_, h⟩ | ⟨x, _, hx, _, hne⟩
   ·exact .inl h
   exact .inr ⟨x, hx, hne⟩
  clear hcont HP
  have hgo : (decide (0 < n) = false) ∨ ∃ x : Nat, 0 < n ∧ wb.cell? ⟨w.heap.size, n - 1, none⟩ = some (.int .u8 (x : Int)) ∧ ((x : Int) == 0) = false := by
   rcases hex with ⟨h, _⟩ | ⟨x, h, hx, hb, _⟩
   ·exact .inl h
   exact .inr ⟨x, h, HA.out.cell hx, hb⟩
  clear hex
  rcases hgo with hgo | ⟨x, hpos, hcell, hb0⟩
  ·go_wp2_with (first
    | (at_make; refine wpList_make_full _ rfl _ _ 30 rfl wb.heap.size 3 i0 (.int .i64 0) 1 xBQ hi hz0 hz1 .i64 .i64 _ _ n rfl rfl (by omega) (by omega) (by rw [hz2]; omega) (by unfold maxLen; omega) (Nat.le_refl _) ?_; intro w0 hown0 hgrow0))
   have hb0' : Below wb.heap.size wb w0 := (Below.refl _ _).grown hgrow0 (Nat.le_refl _) (by intro k hk; cases hk)
   have HO : Hid (OwI w0 wb.heap.size (.slice (some ⟨wb.heap.size, 0, none⟩) n n) ((ks.take 0).map Int.ofNat ++ List.replicate (n - 0) 0)) := by
    have := OwI.made hown0
    show OwI _ _ _ _
    simpa using this
   have HB0 : Hid (Below wb.heap.size wb w0) := hb0'
   clear hown0 hgrow0 hb0'
   go_loopw [21] (fun i wr => ∃ k : Nat, k ≤ n ∧ i = .int .i64 k ∧ OwI wr wb.heap.size (.slice (some ⟨wb.heap.size, 0, none⟩) n n) ((ks.take k).map Int.ofNat ++ List.replicate (n - k) 0) ∧ Below wb.heap.size wb wr) (fun i _ => n - (intOf i).toNat)
   case atStart => exact ⟨0, Nat.zero_le _, rfl, HO.out, HB0.out⟩
   case round =>
    obtain ⟨k, hk, rfl, hown, hbl⟩ := hrel
    have HW : Hid (OwI wr wb.heap.size (.slice (some ⟨wb.heap.size, 0, none⟩) n n) ((ks.take k).map Int.ofNat ++ List.replicate (n - k) 0)) := hown
    clear hown HO HB0
    by_cases hlt : k < n
    ·obtain ⟨y, hy⟩ : ∃ y, ks[k]? = some y := xBL (by have := HK.out; omega)
     have hlp : ((ks.take k).map Int.ofNat).length = k := by simp; have := HK.out; omega
     have hw := HW.out
     rw [show n - k = (n - (k + 1)) + 1 by omega, List.replicate_succ] at hw
     obtain ⟨hc1, hf1⟩ := hw.at (k := k) (x := 0) (by rw [zM (by omega), hlp, Nat.sub_self]; rfl)
     have hy8 := HB.out k y hy
     have hq := hw.put hbl (Nat.le_refl _) (by simp; have := HK.out; omega) (k := k) (z := (y : Int)) (by omega) (ys := (ks.take (k + 1)).map Int.ofNat ++ List.replicate (n - (k + 1)) 0) (by rw [set_mid _ _ _ _ _ hlp, xAY hy]; simp)
     have HQ : Hid (OwI (wr.setCell ⟨wb.heap.size, k, none⟩ (.int .i64 (y : Int))) wb.heap.size (.slice (some ⟨wb.heap.size, 0, none⟩) n n) ((ks.take (k + 1)).map Int.ofNat ++ List.replicate (n - (k + 1)) 0) ∧ Below wb.heap.size wb (wr.setCell ⟨wb.heap.size, k, none⟩ (.int .i64 (y : Int)))) := hq
     have hcy := (HA.out.later hbl).cell hy
     have hk5 : k < 512 := by omega
     clear hq hw hy hlp
     go_wp2
     go_roundw
     case rel => exact ⟨k + 1, by omega, by go_num, HQ.out.1, HQ.out.2⟩
     case measure => simp [intOf]; omega
    have hke : k = n := by omega
    subst hke
    have HF : Hid (OwI wr wb.heap.size (.slice (some ⟨wb.heap.size, 0, none⟩) k k) (unX ks)) := by
     have := HW.out
     rw [Nat.sub_self, List.replicate_zero, zV] at this
     unfold unX
     rw [HT.out]
     exact this
    go_wp2
    go_ret
    exact ⟨_, rfl, HF.out.mono (by omega), zS HBl.out hbl⟩
  go_wp2_with (first
   | (at_make; refine wpList_make_full _ rfl _ _ 30 rfl wb.heap.size 3 i0 (.int .i64 0) 1 xBQ hi hz0 hz1 .i64 .i64 _ _ n rfl rfl (by omega) (by omega) (by rw [hz2]; omega) (by unfold maxLen; omega) (Nat.le_refl _) ?_; intro w0 hown0 hgrow0))
  have hb0' : Below wb.heap.size wb w0 := (Below.refl _ _).grown hgrow0 (Nat.le_refl _) (by intro k hk; cases hk)
  have HO : Hid (OwI w0 wb.heap.size (.slice (some ⟨wb.heap.size, 0, none⟩) n n) ((ks.take 0).map Int.ofNat ++ List.replicate (n - 0) 0)) := by
   have := OwI.made hown0
   show OwI _ _ _ _
   simpa using this
  have HB0 : Hid (Below wb.heap.size wb w0) := hb0'
  clear hown0 hgrow0 hb0'
  go_loopw [21] (fun i wr => ∃ k : Nat, k ≤ n ∧ i = .int .i64 k ∧ OwI wr wb.heap.size (.slice (some ⟨wb.heap.size, 0, none⟩) n n) ((ks.take k).map Int.ofNat ++ List.replicate (n - k) 0) ∧ Below wb.heap.size wb wr) (fun i _ => n - (intOf i).toNat)
  case atStart => exact ⟨0, Nat.zero_le _, rfl, HO.out, HB0.out⟩
  case round =>
   obtain ⟨k, hk, rfl, hown, hbl⟩ := hrel
   have HW : Hid (OwI wr wb.heap.size (.slice (some ⟨wb.heap.size, 0, none⟩) n n) ((ks.take k).map Int.ofNat ++ List.replicate (n - k) 0)) := hown
   clear hown HO HB0
   by_cases hlt : k < n
   ·obtain ⟨y, hy⟩ : ∃ y, ks[k]? = some y := xBL (by have := HK.out; omega)
    have hlp : ((ks.take k).map Int.ofNat).length = k := by simp; have := HK.out; omega
    have hw := HW.out
    rw [show n - k = (n - (k + 1)) + 1 by omega, List.replicate_succ] at hw
    obtain ⟨hc1, hf1⟩ := hw.at (k := k) (x := 0) (by rw [zM (by omega), hlp, Nat.sub_self]; rfl)
    have hy8 := HB.out k y hy
    have hq := hw.put hbl (Nat.le_refl _) (by simp; have := HK.out; omega) (k := k) (z := (y : Int)) (by omega) (ys := (ks.take (k + 1)).map Int.ofNat ++ List.replicate (n - (k + 1)) 0) (by rw [set_mid _ _ _ _ _ hlp, xAY hy]; simp)
    have HQ : Hid (OwI (wr.setCell ⟨wb.heap.size, k, none⟩ (.int .i64 (y : Int))) wb.heap.size (.slice (some ⟨wb.heap.size, 0, none⟩) n n) ((ks.take (k + 1)).map Int.ofNat ++ List.replicate (n - (k + 1)) 0) ∧ Below wb.heap.size wb (wr.setCell ⟨wb.heap.size, k, none⟩ (.int .i64 (y : Int)))) := hq
    have hcy := (HA.out.later hbl).cell hy
    have hk5 : k < 512 := by omega
    clear hq hw hy hlp
    go_wp2
    go_roundw
    case rel => exact ⟨k + 1, by omega, by go_num, HQ.out.1, HQ.out.2⟩
    case measure => simp [intOf]; omega
   have hke : k = n := by omega
   subst hke
   have HF : Hid (OwI wr wb.heap.size (.slice (some ⟨wb.heap.size, 0, none⟩) k k) (unX ks)) := by
    have := HW.out
    rw [Nat.sub_self, List.replicate_zero, zV] at this
    unfold unX
    rw [HT.out]
    exact this
   go_wp2
   go_ret
   exact ⟨_, rfl, HF.out.mono (by omega), zS HBl.out hbl⟩
def puts : LkY → List Mn → LkY × Int
 | L, [] => (L, 0)
 | L, m :: r => if putE L (keyX m.2) m.1 = 0 then puts (putL L (keyX m.2) m.1) r else (putL L (keyX m.2) m.1, putE L (keyX m.2) m.1)
theorem wfK_keyX {es : List Int} (h : Small es) : WfK (keyX es) := by
 refine ⟨xBB h.1, fun j x hx => ?_⟩
 by_cases hj : j < es.length
 ·obtain ⟨y, hy⟩ : ∃ y, es[j]? = some y := ⟨es[j], zC hj⟩
  rw [keyX_get hy] at hx
  cases hx
  have := h.2 j y hy
  omega
 have hl := xBB h.1
 have := (zB.1 hx).1
 rw [keyX_high (by omega) (by omega)] at hx
 cases hx
 omega
theorem len_putL {L : LkY} {k c : List Nat} (h : putE L k c = 0) (hL : L.length ≤ 256) : (putL L k c).length ≤ 256 := by
 unfold putE at h
 unfold putL
 split at h
 ·rename_i h0
  rw [if_pos h0]
  split at h
  ·assumption
  omega
 rename_i h0
 rw [if_neg h0]
 exact hL
theorem putAll_any (b base : Nat) (L : LkY) (p : List Mn) (v : Value) (w : World) (h : MapOk w base b L) (hp : Ms w v p) (hs : ∀ (k : Nat) (m : Mn), p[k]? = some m → Small m.2) (hL : L.length ≤ 256) (hB : base ≤ w.heap.size) :
  Calls Tryz.prog 66 #[.map (some b), v] w fun e w' => e = .returned (.int .i64 (puts L p).2) ∧ MapOk w' base b (puts L p).1 ∧ w.grownBy w' (some b) := by
 obtain ⟨ao, cap, rfl, hao, hca, q0⟩ := Row.flat hp
 unfold maxLen at hca
 have HM : Hid (Ms w (.slice ao p.length cap) p) := hp
 have HS : Hid (∀ (k : Nat) (m : Mn), p[k]? = some m → Small m.2) := hs
 have H0 : Hid (MapOk w base b L) := h
 obtain ⟨es0, clock0, hmap⟩ := h.isMap
 have HMap : Hid (w.heap[b]? = some (.map es0 clock0)) := hmap
 clear hp hs h q0 hmap
 go_enter Tryz.func66, Tryz.ntmps66
 go_wp2
 go_loopw [10] (fun i wr => ∃ (k : Nat) (M : LkY), k ≤ p.length ∧ i = .int .i64 k ∧ puts L p = puts M (p.drop k) ∧ M.length ≤ 256 ∧ MapOk wr base b M ∧ w.grownBy wr (some b)) (fun i _ => p.length - (intOf i).toNat)
 case atStart => exact ⟨0, L, by omega, rfl, rfl, hL, H0.out, World.grownBy.refl _ _⟩
 case round =>
  obtain ⟨k, M, hk, rfl, hpu, hM6, hmo, hgr⟩ := hrel
  have HP : Hid (puts L p = puts M (p.drop k)) := hpu
  have HMo : Hid (MapOk wr base b M) := hmo
  have HG : Hid (w.grownBy wr (some b)) := hgr
  have HKp : Hid (Kp w wr) := Kp.of_map hgr HMap.out
  have hBr : base ≤ wr.heap.size := Nat.le_trans hB hgr.size
  clear hpu hmo hgr
  by_cases hlt : k < p.length
  ·obtain ⟨g, off, c, es, a1, c1, a2, c2, rfl, hm1, hc0, hc1, hmm, hl1, hl2, hl3, hl4⟩ := (HM.out.kp HKp.out).at hlt
   have HX : Hid (p[k]? = some (c, es)) := hm1
   have HSm : Hid (Small es) := HS.out k _ hm1
   have hbx := zA (w := wr) (.cells #[.slice a1 c.length c1, .slice a2 es.length c2] 37)
   have HBX : Hid (Below wr.heap.size wr (wr.alloc (.cells #[.slice a1 c.length c1, .slice a2 es.length c2] 37))) := hbx
   have HMm : Hid (Mo (wr.alloc (.cells #[.slice a1 c.length c1, .slice a2 es.length c2] 37)) (.slice a1 c.length c1) (.slice a2 es.length c2) (c, es)) := hmm.kp (zK hbx)
   clear hm1 hmm hbx
   go_upto_region 4 with fail
   obtain ⟨wb, hwb⟩ : ∃ wb, wb = wr.alloc (.cells #[.slice a1 c.length c1, .slice a2 es.length c2] 37) := ⟨_, rfl⟩
   have hd0 : wb.cell? ⟨wr.heap.size, 0, none⟩ = some (.slice a1 c.length c1) := by rw [hwb]; simp
   have hd1 : wb.cell? ⟨wr.heap.size, 1, none⟩ = some (.slice a2 es.length c2) := by rw [hwb]; simp
   rw [← hwb] at HBX HMm ⊢
   have hbd : Below wr.heap.size wr wb.drew := HBX.out.drew
   have HMb : Hid (MapOk wb.drew base b M) := HMo.out.later hbd
   have HMd : Hid (Mo wb.drew (.slice a1 c.length c1) (.slice a2 es.length c2) (c, es)) := HMm.out
   have HGb : Hid (w.grownBy wb.drew (some b)) := xBG HG.out (xAA hbd _)
   have hBb : base ≤ wb.drew.heap.size := Nat.le_trans hBr hbd.size
   clear hwb hc0 hc1 hbd
   obtain ⟨E, hE⟩ : ∃ E, E = putE M (keyX es) c := ⟨_, rfl⟩
   have HE : Hid (E = putE M (keyX es) c) := hE
   clear hE
   go_cut [7] from 14 to 20 (fun x wx => x = .int .i64 E ∧ MapOk wx base b (putL M (keyX es) c) ∧ w.grownBy wx (some b))
   case first =>
    go_region_with (first
     | (go_at_call 115; refine (packed_any _ es _ HMd.out.2 HSm.out).mono ?_; rintro e w1 ⟨rfl, hb1⟩; have hx0 : w1.cell? ⟨wr.heap.size, 0, none⟩ = some (.slice a1 c.length c1) := (zK hb1).cell _ _ hd0)
     | (go_at_call 117; refine (put_any b base M (keyX es) c _ _ (HMb.out.later hb1) (wfK_keyX HSm.out) (HMd.out.1.kp (zK hb1)) hM6 (Nat.le_trans hBb hb1.size)).mono ?_; rintro e w2 ⟨rfl, hm2, hg2⟩))
    all_goals (go_wp2_with fail; go_meet; exact ⟨by rw [HE.out], hm2, xBG HGb.out (xBG (xAA hb1 _) hg2)⟩)
   case rest =>
    obtain ⟨rfl, hm2, hg2⟩ := hcut
    have HM2 : Hid (MapOk wc base b (putL M (keyX es) c)) := hm2
    have HG2 : Hid (w.grownBy wc (some b)) := hg2
    clear hm2 hg2 hd0 hd1
    by_cases hE0 : E = 0
    ·subst hE0
     go_wp2
     go_roundw
     case rel =>
      refine ⟨k + 1, putL M (keyX es) c, by omega, by go_num, ?_, len_putL HE.out.symm hM6, HM2.out, HG2.out⟩
      rw [HP.out, xAK HX.out, puts, if_pos HE.out.symm]
     case measure => simp [intOf]; omega
    have hb0 : (E != 0) = true := by rw [bne_iff_ne]; exact hE0
    have HF : Hid (puts L p = (putL M (keyX es) c, E)) := by
     show puts L p = _
     rw [HP.out, xAK HX.out, puts, if_neg (by rw [← HE.out]; exact hE0), ← HE.out]
    go_wp2
    go_ret
    exact ⟨ret1i (by rw [HF.out]), by rw [HF.out]; exact HM2.out, HG2.out⟩
  have hke : k = p.length := by omega
  subst hke
  have HF : Hid (puts L p = (M, 0)) := by
   show puts L p = _
   rw [HP.out, zP (Nat.le_refl _)]; rfl
  go_wp2
  go_ret
  exact ⟨ret1i (by rw [HF.out]), by rw [HF.out]; exact HMo.out, HG.out⟩
theorem info_key : (Tryz.prog.info? 160).map (fun i => (i.zero, i.size, i.bytes)) = some (some (.agg Tryz.zeroCells160), 512, 512) := by kernel_rfl
theorem under_keys : Tryz.prog.underlying 165 = some (.slice 160) := by kernel_rfl
theorem foldl_set : ∀ (l : List Value) (n : Nat) (acc : Array Value), n + l.length ≤ acc.size → ∀ k, ((l.zipIdx n).foldl (fun (cs : Array Value) (p : Value × Nat) => cs.setIfInBounds (0 + p.2) p.1) acc)[k]? = if n ≤ k ∧ k < n + l.length then l[k - n]? else acc[k]?
 | [], n, acc, _, k => by simp; intro h1 h2; omega
 | x :: r, n, acc, h, k => by
  simp only [zG] at h
  rw [List.zipIdx_cons, List.foldl_cons, foldl_set r (n + 1) _ (by simp; omega) k]
  simp only [zG, Nat.zero_add]
  by_cases h1 : n + 1 ≤ k ∧ k < n + 1 + r.length
  ·rw [if_pos h1, if_pos (by omega), show k - n = (k - (n + 1)) + 1 by omega, yP]
  rw [if_neg h1]
  by_cases h2 : k = n
  ·subst h2
   rw [if_pos (by omega), Nat.sub_self, yQ, Array.getElem?_setIfInBounds_self_of_lt (by omega)]
  rw [if_neg (by omega), Array.getElem?_setIfInBounds_ne (fun e => h2 e.symm)]
theorem fill_whole {cs old : Array Value} {sz : Nat} (h : cs.size = sz) (h' : old.size = sz) : Instr.fill (fun i => some (i * sz, sz)) old [(0, .agg cs)] = some cs := by
 have hc : (Value.agg cs).cells = cs := rfl
 unfold Instr.fill
 simp only [hc, Nat.zero_mul]
 rw [if_neg (by simp; omega)]
 unfold Instr.fill
 congr 1
 apply Array.ext_getElem?
 intro k
 rw [← Array.foldl_toList, Array.toList_zipIdx]
 rw [foldl_set cs.toList 0 old (by simp; omega) k]
 simp only [Nat.zero_add, Nat.sub_zero, Array.length_toList, Nat.zero_le, true_and]
 by_cases hk : k < cs.size
 ·rw [if_pos hk]; simp
 rw [if_neg hk, Array.getElem?_eq_none (by omega), Array.getElem?_eq_none (by omega)]
theorem run_buildKey (w : World) {k : List Nat} (h : k.length = 512) : (Instr.buildSlice 165 1 #[(0, .agg (arr k))]).run Tryz.prog w = .ok (.slice (some ⟨w.heap.size, 0, none⟩) 1 1) (w.alloc (.cells (arr k) 160)) := by
 obtain ⟨i0, hi, hz0, hz1, hz2⟩ := info_parts info_key
 refine run_buildSlice w _ _ 1 _ (arr k) i0 _ under_keys hi hz0 (by rw [hz1]; omega) (by rw [hz1]; omega) ?_
 rw [hz1]
 exact fill_whole (by rw [xAN, h]) (by simp)
section
variable {P : Program} {w w' : World} {ops : Array Oper} {rest : List Oper} {o : Oper} {a : Act} {Q : Exit → Act → World → Prop}
theorem xEN (hg : o.guard = none) (t : TypeId) (len : Nat) (parts : Array (Nat × Operand)) (ho : o.op = .buildSlice t len parts) (vals : Array (Nat × Value)) (hv : (parts.map fun (i, x) => (i, a.eval x)) = vals) (r : Value)
  (hrun : (Instr.buildSlice t len vals).run P w = .ok r w') (h : wpList P ops Q rest (a.put o.dst r) w') : wpList P ops Q (o :: rest) a w := by
 refine wpList_plain hg fun K' hK' => ?_
 unfold Oper.wp execOp
 simp only [ho, Sem.run_bind, hv, hrun, Result.andThen_ok]
 exact hK' _ _ h
end
structure Col (L : LkY) (kss : List (List Nat)) (left : Lit → Bool) : Prop where
 nodup : kss.Nodup
 mem : ∀ ks ∈ kss, hasK L ks = true
 leftIff : ∀ p ∈ L, (left (kl p.1) = true ↔ p.1 ∉ kss)
 only : ∀ l, left l = true → ∃ p ∈ L, l = kl p.1
theorem sameKey_kl {a b : List Nat} (ha : WfK a) (hb : WfK b) : (kl a).sameKey (kl b) = decide (a = b) := by
 by_cases h : a = b
 ·subst h
  rw [WideAt.sameKey_self (keyed.key (xCU ha))]; simp
 rw [sameKey_ne (fun e => h (kl_inj ha hb e))]; simp [h]
theorem Col.step {L : LkY} {kss : List (List Nat)} {left : Lit → Bool} (h : Col L kss left) (hk : ∀ p ∈ L, WfK p.1) {p : List Nat × List Nat} (hp : p ∈ L) (hl : left (kl p.1) = true) :
  Col L (kss ++ [p.1]) (fun z => left z && !z.sameKey (kl p.1)) := by
 have hn := (h.leftIff p hp).1 hl
 refine ⟨?_, fun ks hks => ?_, fun q hq => ?_, fun l hl' => ?_⟩
 ·rw [List.nodup_append]
  refine ⟨h.nodup, by simp, fun a ha b hb => ?_⟩
  simp only [yR] at hb
  subst hb
  exact fun e => hn (e ▸ ha)
 ·rcases yE.1 hks with hks | hks
  ·exact h.mem ks hks
  simp only [yR] at hks
  subst hks
  exact xBI.2 ⟨p.2, hp⟩
 ·simp only [Bool.and_eq_true, Bool.not_eq_true', sameKey_kl (hk q hq) (hk p hp), decide_eq_false_iff_not, h.leftIff q hq, yE, yR, not_or]
 simp only [Bool.and_eq_true] at hl'
 exact h.only l hl'.1
theorem Col.start {w : World} {base b : Nat} {L : LkY} {D : DataW Value} (_hm : MapOk w base b L) (h3 : ∀ k c, (k, c) ∈ L → ∃ v, (∀ z, D.atKey (kl k) z = .held (.agg #[v])) ∧ Ow w base v c ∧ Maps.has D (kl k) = true) (h4 : ∀ l, Maps.has D l = true → ∃ k c, (k, c) ∈ L ∧ l = kl k) : Col L [] (Maps.has D) := by
 refine ⟨by simp, fun ks h => (by cases h), fun p hp => ?_, fun l hl => ?_⟩
 ·obtain ⟨_, _, _, h⟩ := h3 p.1 p.2 hp
  simp [h]
 obtain ⟨k, c, h, e⟩ := h4 l hl
 exact ⟨(k, c), h, e⟩
theorem Col.sorted {L : LkY} {kss : List (List Nat)} {left : Lit → Bool} (h : Col L kss left) (hr : Rising L) (h0 : ∀ l, left l = false) : kss.mergeSort leK = L.map (·.1) := by
 have hle : ∀ a b, leK a b = true ↔ ¬ ltK b a := by intro a b; simp [leK]
 have hkeys : (L.map (·.1)).Pairwise ltK := List.pairwise_map.2 hr
 have hnd : (L.map (·.1)).Nodup := hkeys.imp (fun {a b} (hab : ltK a b) (e : a = b) => xAS b (by rw [e] at hab; exact hab))
 have hperm : kss.Perm (L.map (·.1)) := by
  rw [List.perm_ext_iff_of_nodup h.nodup hnd]
  intro ks
  constructor
  ·intro hk
   obtain ⟨c, hc⟩ := xBI.1 (h.mem ks hk)
   exact yL.2 ⟨(ks, c), hc, rfl⟩
  intro hk
  obtain ⟨p, hp, rfl⟩ := yL.1 hk
  by_cases hin : p.1 ∈ kss
  ·exact hin
  have := (h.leftIff p hp).2 hin
  rw [h0] at this
  cases this
 have htr : ∀ a b c, leK a b = true → leK b c = true → leK a c = true := by
  intro a b c h1 h2
  rw [hle] at *
  intro h3
  by_cases e : b = c
  ·subst e; exact h1 h3
  exact h1 (xBT (ltK_or (fun e2 => e e2.symm) h2) h3)
 have htot : ∀ a b, (leK a b || leK b a) = true := by
  intro a b
  rw [Bool.or_eq_true, hle, hle]
  by_cases e : ltK b a
  ·right; exact fun h2 => xAS _ (xBT e h2)
  exact .inl e
 have hs1 : (kss.mergeSort leK).Pairwise (fun a b => leK a b = true) := List.pairwise_mergeSort htr htot kss
 have hs2 : (L.map (·.1)).Pairwise (fun a b => leK a b = true) := hkeys.imp (fun {a b} hab => (hle a b).2 (fun h2 => xAS _ (xBT hab h2)))
 have hp2 : (kss.mergeSort leK).Perm (L.map (·.1)) := (List.mergeSort_perm kss leK).trans hperm
 refine hp2.eq_of_pairwise (le := fun a b => leK a b = true) (fun a b _ _ h1 h2 => ?_) hs1 hs2
 rw [hle] at h1 h2
 by_cases e : a = b
 ·exact e
 exact absurd (ltK_or e h2) h1
theorem MapOk.lookAll {w : World} {base b : Nat} {L : LkY} (h : MapOk w base b L) {p : List Nat × List Nat} (hp : p ∈ L) {D : DataW Value}
  (_hD : w.ownsMap Tryz.prog 160 RVY b L.length D) (h3 : ∀ k c, (k, c) ∈ L → ∃ v, (∀ z, D.atKey (kl k) z = .held (.agg #[v])) ∧ Ow w base v c ∧ Maps.has D (kl k) = true) :
  ∃ u, Ow w base u p.2 ∧ ∀ w' : World, w'.ownsMap Tryz.prog 160 RVY b L.length D → (Instr.lookup 109 (.map (some b)) (.agg (cellsL p.1).toArray) false).run Tryz.prog w' = .ok (.agg #[u]) w' := by
 obtain ⟨u, ha, ho, _⟩ := h3 p.1 p.2 hp
 refine ⟨u, ho, fun w' hw' => ?_⟩
 obtain ⟨x, ps, hrun, hR⟩ := hw'.lookup keyed xES (zeroCoef w') (zd := .held (.agg #[.slice none 0 0])) (zp := []) rfl (xCU (h.keys p hp))
 rw [ha] at hR
 simp only [RVY, zX, Prod.mk.injEq, DataW.held.injEq] at hR
 rw [hR.1] at hrun
 exact hrun
section
variable {w w' : World} {g b n : Nat} {k : List Nat} {D : DataW Value}
theorem keepA (h : w.rangeAt g 0 (cellsL k) ∧ w.ownsMap Tryz.prog 160 RVY b n D) (hb : Below w.heap.size w w') : w'.rangeAt g 0 (cellsL k) ∧ w'.ownsMap Tryz.prog 160 RVY b n D :=
 ⟨fun j v hj => (zK hb).cell _ _ (h.1 j v hj), h.2.kept (xAA hb none) (by simp)⟩
theorem keepG {row : Option Nat} (h : w.rangeAt g 0 (cellsL k) ∧ w.ownsMap Tryz.prog 160 RVY b n D) (hg : w.grownBy w' row) (h1 : some g ≠ row) (h2 : some b ≠ row) : w'.rangeAt g 0 (cellsL k) ∧ w'.ownsMap Tryz.prog 160 RVY b n D :=
 ⟨fun j v hj => by
  have hc := h.1 j v hj
  rw [World.cell?_of_block (hg.block g (yJ w _ hc) h1)]
  exact hc, h.2.kept hg h2⟩
end
theorem OM.snoc {w w' : World} {base : Nat} {v v' : Value} {p : List Mn} {cs : List (Value × Value)} {cv ev : Value} {m : Mn} {row : Option Nat}
  (hl : cs.length = p.length) (hc : ∀ (i : Nat) (c : Value × Value) (m : Mn), cs[i]? = some c → p[i]? = some m → Ow w base c.1 m.1 ∧ OwI w base c.2 m.2) (ho : w.ownsRow base 37 2 v p.length (cs.flatMap fun c => [c.1, c.2]))
  (h1 : Ow w base cv m.1) (h2 : OwI w base ev m.2) (ho' : w'.ownsRow base 37 2 v' (p.length + 1) ((cs.flatMap fun c => [c.1, c.2]) ++ [cv, ev])) (hg : w.grownBy w' row) (hr : row = v.ownBlock) :
  OM w' base v' (p ++ [m]) := by
 subst hr
 refine ⟨cs ++ [(cv, ev)], by simp [hl], fun i c q hi hq => ?_, by simpa using ho'⟩
 have k1 : ∀ {u : Value} {xs : List Nat}, Ow w base u xs → Ow w' base u xs := fun h => h.held hg (xCD h.2 ho (by decide))
 have k2 : ∀ {u : Value} {xs : List Int}, OwI w base u xs → OwI w' base u xs := fun h => h.kept hg (xCD h.2 ho (by decide))
 by_cases hi2 : i < cs.length
 ·rw [zN hi2] at hi
  rw [zN (by omega)] at hq
  exact ⟨k1 (hc i c q hi hq).1, k2 (hc i c q hi hq).2⟩
 rw [zM (by omega)] at hi
 rw [zM (by omega)] at hq
 have e0 : i - cs.length = 0 := by
  have := (zB.1 hi).1
  simp at this
  omega
 rw [e0] at hi
 rw [← hl, e0] at hq
 simp only [yQ, zX] at hi hq
 subst hi
 subst hq
 exact ⟨k1 h1, k2 h2⟩
end Go.Proofs.YtdjmjhlbjcgoiaaGreatDoor
