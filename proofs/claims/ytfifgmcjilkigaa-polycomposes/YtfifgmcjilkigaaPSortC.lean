/- What the sort leaves. -/
import Derived.Test.YtfifgmcjilkigaaPSortB
namespace Go.Proofs.Ytfifgmcjilkigaa
open Go.RowKit Go.Maps Go.Sort Go.Shelf

theorem isAggK (w : World) : (isAgg 70).run Try.prog w = .ok true w := by kernel_rfl
theorem sizeOfK (w : World) : (Go.sizeOf 70).run Try.prog w = .ok 512 w := by kernel_rfl

theorem getE {α : Type} [Inhabited α] {d : Array α} {i : Nat} {x : α} (h : d.toList[i]? = some x) : d[i]! = x := by
  have : d[i]? = some x := by simpa using h
  rw [getElem!_def, this]

/-- The flat row of keys. -/
theorem flatK_get [Inhabited KeyT] (d : Array KeyT) {t : Nat} (ht : t < d.size * 512) : ((d.toList.map Subtype.val).flatMap cellsL)[t]? = some (flatK encT 512 d)[t]! := by
  have hi : t / 512 < d.size := by omega
  have hx : d.toList[t / 512]? = some d[t / 512] := by simp [hi]
  have hks : (d.toList.map Subtype.val)[t / 512]? = some d[t / 512].1 := by rw [List.getElem?_map, hx]; rfl
  have hw : ∀ ks ∈ d.toList.map Subtype.val, WfK ks := by
    intro ks hk
    obtain ⟨x, _, rfl⟩ := List.mem_map.1 hk
    exact x.2
  have := flat_get hw hks (j := t % 512) (by omega)
  rw [show t / 512 * 512 + t % 512 = t by omega] at this
  rw [this, get_flatK _ _ _ _ ht, getE hx]
  have hl : t % 512 < (encT d[t / 512]).length := by unfold encT; rw [len_cellsL d[t / 512].2]; omega
  have e1 : (encT d[t / 512])[t % 512]! = (encT d[t / 512])[t % 512] := getElem!_pos (encT d[t / 512]) (t % 512) hl
  rw [e1]
  exact List.getElem?_eq_getElem hl

theorem sort_holds [Inhabited KeyT] {w : World} {base g cap : Nat} {d : Array KeyT} (h : OwK w base (.slice (some ⟨g, 0, none⟩) d.size cap) (d.toList.map Subtype.val)) : HoldsK encT 512 w g 0 d := by
  intro t ht
  have ht' : t < d.size * 512 := by simpa using ht
  have hl : (d.toList.map Subtype.val).length = d.size := by simp
  have h2 := h
  unfold OwK at h2
  rw [hl] at h2
  refine ⟨?_, by rw [Nat.zero_add]; exact World.ownsRow.frozenAt h2 t⟩
  rw [Nat.zero_add, World.ownsRow.cellAt h2 t ht']
  have := flatK_get d ht'
  rw [List.getElem?_eq_some_iff] at this
  obtain ⟨h3, h4⟩ := this
  simp [← h4]

set_option maxRecDepth 100000 in
theorem sortRow [Inhabited KeyT] {w : World} {base g cap : Nat} {d d' : Array KeyT} {n : Nat} {os : Array Obj} (h : OwK w base (.slice (some ⟨g, 0, none⟩) d.size cap) (d.toList.map Subtype.val)) (hs : d'.size = d.size) :
    OwK (sortWorldK encT 512 w g 0 n d' os) base (.slice (some ⟨g, 0, none⟩) d.size cap) (d'.toList.map Subtype.val) ∧ w.grownBy (sortWorldK encT 512 w g 0 n d' os) (some g) := by
  have hl : (d.toList.map Subtype.val).length = d.size := by simp
  have hl' : (d'.toList.map Subtype.val).length = d.size := by simp [hs]
  have hw' : ∀ ks ∈ d'.toList.map Subtype.val, WfK ks := by
    intro ks hk
    obtain ⟨x, _, rfl⟩ := List.mem_map.1 hk
    exact x.2
  rcases h.2 with ⟨hv, _⟩ | ⟨g', cap', cur, hv, hb, hg, hc, hm, hsz, ht⟩
  · cases hv
  · simp only [Value.slice.injEq, Option.some.injEq, Addr.mk.injEq, and_true, true_and, hl] at hv
    obtain ⟨rfl, rfl⟩ := hv
    have hglt := (Array.getElem?_eq_some_iff.1 hg).1
    have hg2 : (Sort.ahead w n).heap[g]? = some (.cells cur 70 (0, 0)) := hg
    have hgg : (sortWorldK encT 512 w g 0 n d' os).heap[g]? = some (.cells (putCells id 0 (flatK encT 512 d') cur) 70 (0, 0)) := by
      unfold sortWorldK putRowK
      rw [heap_grow_old _ _ (by simpa using hglt)]
      exact heap_putRow id _ g 0 _ hg2
    refine ⟨⟨by rw [flat_len hw'], .inr ⟨g, cap, _, by rw [hl'], hb, hgg, by rw [hl']; rw [hl] at hc; exact hc, hm, by simpa [putCells] using hsz, ?_⟩⟩, ?_⟩
    · rw [hl']
      apply List.ext_getElem?
      intro t
      by_cases htt : t < d.size * 512
      · rw [List.getElem?_take_of_lt htt, flatK_get d' (by rw [hs]; exact htt)]
        have htc : t < cur.size := by rw [hsz]; rw [hl] at hc; have := Nat.mul_le_mul_right 512 hc; omega
        simp only [putCells, Array.toList_mapIdx, List.getElem?_mapIdx, size_flatK, hs]
        simp [htc, htt]
      · rw [List.getElem?_eq_none (by simp; omega), List.getElem?_eq_none (by rw [flat_len hw', hl']; omega)]
    · refine ⟨rfl, rfl, rfl, ?_, fun k hk hne => ?_⟩
      · unfold sortWorldK putRowK grow
        simp [Sort.ahead]
      · unfold sortWorldK putRowK
        rw [heap_grow_old _ _ (by simpa using hk), heap_putRow_other _ _ _ _ _ _ (by simpa using hne)]
        rfl

set_option maxRecDepth 100000 in
set_option maxHeartbeats 800000 in
theorem sortKeys_any (kss : List (List Nat)) (v : Value) (w : World) (base : Nat) (hw : ∀ ks ∈ kss, WfK ks) (ho : OwK w base v kss) (hn : kss.length < 4611686018427387904) :
    Calls Try.prog 66 #[v, .func (.func 67) #[] #[]] w fun e w' => e = .returned (.tuple #[]) ∧ OwK w' base v (kss.mergeSort leK) ∧ w.grownBy w' v.ownBlock := by
  rcases ho.2 with ⟨rfl, h0⟩ | ⟨g, cap, cur, rfl, _⟩
  · obtain rfl : kss = [] := List.eq_nil_of_length_eq_zero h0
    have hcon := AnyF.slices_SortFunc_none Try.sortLay none 0 (.func (.func 67) #[] #[]) w
    change Calls Try.prog 66 _ _ _ at hcon
    refine hcon.mono ?_
    rintro e w' ⟨rfl, rfl⟩
    exact ⟨rfl, by simpa using ho, World.grownBy.refl _ _⟩
  · letI hI : Inhabited KeyT := ⟨⟨zeros, len_zeros, fun j x hj => by have := List.mem_of_getElem? hj; have := (List.mem_replicate.1 this).2; omega⟩⟩
    let d : Array KeyT := (kss.attachWith WfK hw).toArray
    have hd : d.toList.map Subtype.val = kss := by simp [d]
    have hds : d.size = kss.length := by simp [d]
    have eg : ∀ args w, (callFunc 67 args).run Try.prog w = .ok (.enter 67 args) w := enters_of Try.func67 (by kernel_rfl) rfl
    have hcmp : CmpLays Try.prog 67 #[] encT 512 cfT g 0 d.size w := fun m os dk _ x y => closure_any x.1 y.1 _ x.2 y.2
    have ho' : OwK w base (.slice (some ⟨g, 0, none⟩) d.size cap) (d.toList.map Subtype.val) := by rw [hd, hds]; exact ho
    have hblk : g < w.heap.size := by
      rcases ho.2 with ⟨hv, _⟩ | ⟨g', cap', cur', hv, _, hg, _⟩
      · cases hv
      · simp only [Value.slice.injEq, Option.some.injEq, Addr.mk.injEq, and_true] at hv
        rw [← hv.1] at hg
        exact (Array.getElem?_eq_some_iff.1 hg).1
    have hcon := AnyQ.slices_SortFunc_total Try.sortLay 512 isAggK sizeOfK encT (fun x => len_cellsL x.2) (fun x u hu => by
      obtain ⟨n, _, rfl⟩ := List.mem_map.1 hu
      rfl) cfT swoT 67 #[] g 0 cap d w eg hcmp (sort_holds ho') hblk (by rw [hds]; exact hn) totT
    change Calls Try.prog 66 _ _ _ at hcon
    rw [hds] at hcon
    refine hcon.mono ?_
    rintro e w' ⟨rfl, n, os, rfl⟩
    have hr := sortRow (n := n) (os := os) (d' := (d.toList.mergeSort fun x y => !(ltOf cfT) y x).toArray) ho' (by simp)
    rw [hds] at hr
    have hmap : ((d.toList.mergeSort fun x y => !(ltOf cfT) y x).toArray.toList.map Subtype.val) = kss.mergeSort leK := by
      show (d.toList.mergeSort fun x y => !(ltOf cfT) y x).map Subtype.val = _
      have hm := List.map_mergeSort (r := fun x y => !(ltOf cfT) y x) (s := leK) (f := Subtype.val) (l := d.toList) (fun a _ b _ => rfl)
      rw [hm, hd]
    rw [hmap] at hr
    exact ⟨rfl, hr.1, hr.2⟩

end Go.Proofs.Ytfifgmcjilkigaa
