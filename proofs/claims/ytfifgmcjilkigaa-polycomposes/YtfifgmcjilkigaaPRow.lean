/- The polynomial of a map of like monomials. -/
import Derived.Test.YtfifgmcjilkigaaPRowB
namespace Go.Proofs.Ytfifgmcjilkigaa
open Go.RowKit Go.Maps

theorem OwK.slice {w : World} {base : Nat} {v : Value} {kss : List (List Nat)} (h : OwK w base v kss) : ∃ ao cap, v = .slice ao kss.length cap := by
  rcases h.2 with ⟨rfl, hn⟩ | ⟨g, cap, cur, rfl, _⟩
  · exact ⟨_, 0, by rw [hn]⟩
  · exact ⟨_, cap, rfl⟩

theorem OwK.notIter {w : World} {base r : Nat} {v : Value} {kss : List (List Nat)} {m : Option Nat} {s c : Nat} {seen : Array Nat} (h : OwK w base v kss) (hr : w.heap[r]? = some (.mapIter m s seen c)) : v.ownBlock = none ∨ v.ownBlock ≠ some r := by
  rcases h.2 with ⟨rfl, _⟩ | ⟨g, cap, cur, rfl, _, hg, _⟩
  · exact .inl rfl
  · refine .inr ?_
    simp only [Value.ownBlock]
    intro e
    cases e
    rw [hg] at hr
    cases hr

theorem OwK.notMap {w : World} {base b : Nat} {v : Value} {kss : List (List Nat)} {es : Array MapEntry} {clock : Nat} (h : OwK w base v kss) (hb : w.heap[b]? = some (.map es clock)) : some b ≠ v.ownBlock := by
  rcases h.2 with ⟨rfl, _⟩ | ⟨g, cap, cur, rfl, _, hg, _⟩
  · simp [Value.ownBlock]
  · simp only [Value.ownBlock]
    intro e
    cases e
    rw [hg] at hb
    cases hb

theorem OwK.base {w : World} {base : Nat} {v : Value} {kss : List (List Nat)} (h : OwK w base v kss) : ∀ k, v.ownBlock = some k → base ≤ k := by
  intro k hk
  rcases h.2 with ⟨rfl, _⟩ | ⟨g, cap, cur, rfl, hb, _⟩
  · cases hk
  · simp only [Value.ownBlock, Option.some.injEq] at hk
    omega

theorem ranges_iter {w : World} {b r n cnt : Nat} {D : DataW Value} {left : Lit → Bool} (h : w.ranges Try.prog 70 RV b r n D left cnt) : (∃ m s seen c, w.heap[r]? = some (.mapIter m s seen c)) ∧ ∃ es clock, w.heap[b]? = some (.map es clock) := by
  obtain ⟨es, clock, since, seen, c0, hb, _, _, _, hit, _⟩ := h
  exact ⟨⟨_, _, _, _, hit⟩, _, _, hb⟩

theorem OwK.held {w w' : World} {base : Nat} {v : Value} {kss : List (List Nat)} {row : Option Nat} (h : OwK w base v kss) (hg : w.grownBy w' row) (hne : v.ownBlock = none ∨ v.ownBlock ≠ row) : OwK w' base v kss := World.ownsRow.kept h hg hne

theorem grown_alloc_set (w : World) (o : Obj) (cs : Array Value) (o' : Obj) : w.grownBy (((w.alloc o).setRow w.heap.size cs).alloc o') none := by
  have h1 : Below w.heap.size w ((w.alloc o).setRow w.heap.size cs) := below_setRow (below_alloc o) (Nat.le_refl _)
  exact grown_of_below (below_step h1 (below_alloc o')) none

theorem flat_snoc (kss : List (List Nat)) (k : List Nat) : kss.flatMap cellsL ++ cellsL k = (kss ++ [k]).flatMap cellsL := by simp

/-- The polynomial. -/
def rowL (L : Lk) : List Mn := L.map fun p => ((p.2, unX p.1) : Mn)

theorem OwK.cellsAt {w : World} {base g n cap : Nat} {kss : List (List Nat)} (h : OwK w base (.slice (some ⟨g, 0, none⟩) n cap) kss) (hw : ∀ ks ∈ kss, WfK ks) (hn : n = kss.length) {k : Nat} {ks : List Nat} (hk : kss[k]? = some ks) : w.rangeAt g (k * 512) (cellsL ks) := by
  subst hn
  intro j v hj
  have h5 : j < 512 := by
    have := (List.getElem?_eq_some_iff.1 hj).1
    rw [len_cellsL (hw ks (List.mem_of_getElem? hk))] at this
    exact this
  have hkl := (List.getElem?_eq_some_iff.1 hk).1
  have hf := flat_get hw hk h5
  rw [hj] at hf
  have hb : k * 512 + j < kss.length * 512 := by omega
  rw [World.ownsRow.cellAt h _ hb]
  obtain ⟨ha, hb'⟩ := List.getElem?_eq_some_iff.1 hf
  simp [← hb']

theorem OwK.some {w : World} {base : Nat} {ao : Option Addr} {n cap : Nat} {kss : List (List Nat)} (h : OwK w base (.slice ao n cap) kss) (h0 : 0 < kss.length) : ∃ g, ao = some ⟨g, 0, none⟩ := by
  rcases h.2 with ⟨hv, hn⟩ | ⟨g, cap, cur, hv, _⟩
  · omega
  · simp only [Value.slice.injEq] at hv
    exact ⟨g, hv.1⟩

theorem OM.mono {w : World} {base b' : Nat} {v : Value} {p : List Mn} (h : OM w base v p) (hb : b' ≤ base) : OM w b' v p := by
  obtain ⟨cs, hl, hc, ho⟩ := h
  refine ⟨cs, hl, fun i c m h1 h2 => ⟨(hc i c m h1 h2).1.mono hb, (hc i c m h1 h2).2.mono hb⟩, ho.1, ?_⟩
  rcases ho.2 with h | ⟨g, cap, cur, rfl, hg, r⟩
  · exact .inl h
  · exact .inr ⟨g, cap, cur, rfl, Nat.le_trans hb hg, r⟩

set_option maxRecDepth 100000 in
set_option maxHeartbeats 1000000 in
theorem row_any (b base : Nat) (L : Lk) (w : World) (h : MapOk w base b L) (hL : L.length ≤ 257) (hbase : base ≤ w.heap.size) :
    Calls Try.prog 50 #[.map (some b)] w fun e w' => ∃ v, e = .returned v ∧ OM w' base v (rowL L) ∧ Below w.heap.size w w' := by
  obtain ⟨i0, hi, hz0, hz1, hz2⟩ := info_parts info_key
  have HM : Hid (MapOk w base b L) := h
  obtain ⟨D, hD1, hD2, hD3, hD4⟩ := h.own
  have HCol : Hid (Col L [] (Maps.has D)) := Col.start h hD3 hD4
  have HD3 : Hid (∀ k c, (k, c) ∈ L → ∃ v, (∀ z, D.atKey (kl k) z = .held (.agg #[v])) ∧ Ow w base v c ∧ Maps.has D (kl k) = true) := hD3
  have HD1 : Hid (w.ownsMap Try.prog 70 RV b L.length D) := hD1
  have HD2 : Hid (Maps.size D = L.length) := hD2
  have HLen : Hid (∀ ty, (Builtin.len_ #[62] ty #[.map (some b)]).run Try.prog w = .ok (.int .i64 (L.length : Int)) w) := fun ty => h.len ty
  have hzs : (Value.agg Try.zeroCells70).cells.size = 512 := Try.zeroCells70_size
  have hzs2 : Try.zeroCells70.size = 512 := Try.zeroCells70_size
  have hblt := h.lt
  clear h hD1 hD2 hD3 hD4
  go_enter Try.func50, Try.ntmps50
  go_wp2_with fail
  rw [HLen.out]
  go_wp2_with (first
    | (at_make; refine wpList_make_own _ rfl _ _ 76 rfl w.heap.size 70 i0 _ 512 under_keys hi hz0 hz1 .i64 .i64 _ L.length rfl rfl rfl (by rw [hz2]; omega) (by unfold maxLen; omega) (Nat.le_refl _) ?_; intro w0 hown0 hgrow0)
    | (at_range; refine wpList_range_own _ rfl _ _ rfl _ _ keyed under_map RV b L.length D rfl (HD1.out.kept hgrow0 (by simp)) ?_; intro w1 hrg hg1 hs1))
  have hB1 : Below w.heap.size w w1 := ((Below.refl _ _).grown hgrow0 (Nat.le_refl _) (by intro k hk; cases hk)).grown hg1 hgrow0.size (by intro k hk; cases hk)
  have HO1 : Hid (OwK w1 w.heap.size (.slice (some ⟨w.heap.size, 0, none⟩) 0 L.length) []) := World.ownsRow.kept hown0 hg1 (.inr (by simp [Value.ownBlock]))
  obtain ⟨R0, hR0⟩ : ∃ R0, R0 = w0.heap.size := ⟨_, rfl⟩
  rw [← hR0] at hrg ⊢
  have HRg : Hid (w1.ranges Try.prog 70 RV b R0 L.length D (Maps.has D) (Maps.size D)) := hrg
  have hRw : w.heap.size ≤ R0 := by rw [hR0]; exact hgrow0.size
  have HBB : Hid (Below w.heap.size w w1) := hB1
  clear hown0 hgrow0 hg1 hs1 hrg hB1 hR0
  simp only [Act.put, List.setIfInBounds_toArray, List.set_cons_succ, List.set_cons_zero]
  go_loopw [3] (fun v wr => ∃ (kss : List (List Nat)) (left : Lit → Bool) (cnt : Nat), OwK wr w.heap.size v kss ∧ wr.ranges Try.prog 70 RV b R0 L.length D left cnt ∧ Col L kss left ∧ kss.length + cnt ≤ L.length ∧ Below w.heap.size w wr) (fun _ wr => wr.rangeLeft b R0)
  case atStart => exact ⟨[], Maps.has D, Maps.size D, HO1.out, HRg.out, HCol.out, by rw [HD2.out]; simp, HBB.out⟩
  case round =>
    obtain ⟨kss, left, cnt, ho, hrg, hcol, hcnt, hbl⟩ := hrel
    obtain ⟨ao, cap, rfl⟩ := ho.slice
    have hle := hrg.left_eq
    have HO : Hid (OwK wr w.heap.size (.slice ao kss.length cap) kss) := ho
    have HR : Hid (wr.ranges Try.prog 70 RV b R0 L.length D left cnt) := hrg
    have HC : Hid (Col L kss left) := hcol
    have HLe : Hid (wr.rangeLeft b R0 = cnt) := hle
    clear ho hrg hcol hle HO1 HRg HCol HBB HLen
    go_wp2_with (first
      | (at_next; refine wpList_next_ranges _ rfl _ rfl 70 keyed RV (id : Value → Value) (id : Value → Value) (fun key _ _ => ⟨key, rfl⟩) (fun v _ _ => ⟨v, rfl⟩) b R0 L.length D left cnt rfl HR.out ?_ ?_))
    case refine_2 =>
      intro key cc l yd yp w2 cnt2 hkey hlk hv hat hrg2 hlt hg2 hs2 hen
      obtain ⟨p, hp, rfl⟩ := HC.out.only l hlk
      have hWp := HM.out.keys p hp
      obtain rfl : key = .agg (arr p.1) := keyed.inj hkey (keyOf_arr hWp)
      have h512 := hWp.1
      obtain ⟨⟨_, _, _, _, hit⟩, _⟩ := ranges_iter HR.out
      have ho2 := HO.out.held hg2 (HO.out.notIter hit)
      have hga := grown_alloc_set w2 (.cells Try.zeroCells70 70) (arr p.1) (.cells (arr p.1) 70)
      have ho3 := ho2.held hga (by cases hv : (Value.slice ao kss.length cap).ownBlock <;> simp)
      have hrg3 := hrg2.kept hga (by simp) (by simp)
      have hbl3 : Below w.heap.size w (((w2.alloc (.cells Try.zeroCells70 70)).setRow w2.heap.size (arr p.1)).alloc (.cells (arr p.1) 70)) :=
        (hbl.grown hg2 hbl.size (by intro k hk; cases hk; exact hRw)).grown hga (Nat.le_trans hbl.size hg2.size) (by intro k hk; cases hk)
      have HO3 : Hid (OwK (((w2.alloc (.cells Try.zeroCells70 70)).setRow w2.heap.size (arr p.1)).alloc (.cells (arr p.1) 70)) w.heap.size (.slice ao kss.length cap) kss) := ho3
      have HR3 : Hid ((((w2.alloc (.cells Try.zeroCells70 70)).setRow w2.heap.size (arr p.1)).alloc (.cells (arr p.1) 70)).ranges Try.prog 70 RV b R0 L.length D (fun z => left z && !z.sameKey (kl p.1)) cnt2) := hrg3
      have HB3 : Hid (Below w.heap.size w (((w2.alloc (.cells Try.zeroCells70 70)).setRow w2.heap.size (arr p.1)).alloc (.cells (arr p.1) 70))) := hbl3
      have HCs : Hid (Col L (kss ++ [p.1]) (fun z => left z && !z.sameKey (kl p.1))) := HC.out.step HM.out.keys hp hlk
      have HWp : Hid (WfK p.1) := hWp
      have HLt : Hid (cnt2 < cnt) := hlt
      have hkl : kss.length ≤ 257 := by omega
      have HNew : Hid (∀ (j : Nat) (u : Value), (cellsL p.1)[j]? = some u → (((w2.alloc (.cells Try.zeroCells70 70)).setRow w2.heap.size (arr p.1)).alloc (.cells (arr p.1) 70)).cell? ((⟨((w2.alloc (.cells Try.zeroCells70 70)).setRow w2.heap.size (arr p.1)).heap.size, 0, none⟩ : Addr).add j) = some u) := by
        intro j u hu
        rw [Addr.add_lit, Nat.zero_add, cell_of_row _ _ _ _ _ _ (heap_alloc_new _ _), arr_cells]
        simpa using hu
      have hcl512 := len_cellsL hWp
      have HOne : Hid (∀ u ∈ cellsL p.1, u.oneCell' = true) := by
        intro u hu
        obtain ⟨n, _, rfl⟩ := List.mem_map.1 hu
        rfl
      clear hkey hlk hv hat hrg2 hlt hg2 hs2 hit ho2 hga ho3 hrg3 hbl3 hWp hp
      go_wp2_with (first
        | (refine wpList_store_row rfl _ _ _ rfl w2.heap.size (arr p.1) rfl rfl _ _ (heap_alloc_new w2 _) (by rw [info_arr, arr_size, h512]) (by rw [arr_size, h512, hzs2]) (arr_one _) ?_)
        | (refine wpList_load_row rfl _ _ rfl w2.heap.size rfl _ _ _ _ (setRow_heap _ _ _ _ _ _ (heap_alloc_new w2 _)) under_arr rfl (by rw [info_arr, arr_size, h512]) ?_)
        | (refine wpList_buildSlice_run rfl _ _ _ rfl #[(0, .agg (arr p.1))] (by simp [Act.put, Act.eval]) _ (run_buildKey _ h512) ?_)
        | (at_builtin; refine wpList_append_own _ rfl _ _ 76 rfl w.heap.size 70 i0 _ 512 512 under_keys hi hz0 hz1 hz2 hzs (by decide) (.slice ao kss.length cap) kss.length (kss.flatMap cellsL) rfl HO3.out _ 1 1 (cellsL p.1) rfl (by rw [hcl512]) HNew.out HOne.out (by unfold maxLen; omega) (by omega) HB3.out.size ?_; intro v' w5 hown' hgrow' hnil))
      have hr5 := HR3.out.kept hgrow' (HO3.out.notMap (ranges_iter HR3.out).2.choose_spec.choose_spec) (by
        obtain ⟨⟨_, _, _, _, hit⟩, _⟩ := ranges_iter HR3.out
        rcases HO3.out.notIter hit with h | h
        · rw [h]; simp
        · exact fun e => h e.symm)
      refine ⟨⟨kss ++ [p.1], _, cnt2, ?_, hr5, HCs.out, by have := HLt.out; simp; omega, HB3.out.grown hgrow' HB3.out.size HO3.out.base⟩, by rw [hr5.left_eq, HLe.out]; exact HLt.out⟩
      unfold OwK
      rw [← flat_snoc, List.length_append]
      exact hown'
    case refine_1 =>
      intro hc0 hl0
      have hs := HC.out.sorted HM.out.rising hl0
      have HS : Hid (kss.mergeSort leK = L.map (·.1)) := hs
      have hkl : kss.length = L.length := by
        have := congrArg List.length hs
        simpa using this
      have HW : Hid (∀ ks ∈ kss, WfK ks) := fun ks hk => by
        obtain ⟨c, hc⟩ := hasK_iff.1 (HC.out.mem ks hk)
        exact HM.out.keys _ hc
      rw [hkl] at HO ⊢
      have HKL : Hid (kss.length = L.length) := hkl
      clear hc0 hl0 hs hkl
      go_wp2_with fail
      refine (sortKeys_any kss _ _ w.heap.size HW.out HO.out (by rw [HKL.out]; omega)).mono ?_
      rintro e w2 ⟨rfl, ho2, hg2⟩
      rw [HS.out] at ho2
      have HO2 : Hid (OwK w2 w.heap.size (.slice ao L.length cap) (L.map (·.1))) := ho2
      have HB2 : Hid (Below w.heap.size w w2) := hbl.grown hg2 hbl.size HO.out.base
      clear ho2 hg2 hbl HC HR HO HLe HS HW
      go_wp2
      go_loopw [5, 25] (fun v i wr => ∃ k : Nat, k ≤ L.length ∧ i = .int .i64 k ∧ OM wr base v ((rowL L).take k) ∧ OwK wr w.heap.size (.slice ao L.length cap) (L.map (·.1)) ∧ (∀ j, v.ownBlock = some j → w.heap.size ≤ j) ∧ Below w.heap.size w wr) (fun _ i _ => L.length - (intOf i).toNat)
      case atStart => exact ⟨0, Nat.zero_le _, rfl, OM.nil _ _, HO2.out, fun j hj => (by cases hj), HB2.out⟩
      case round =>
        obtain ⟨k, hk, rfl, hom, hok, hvb, hbl⟩ := hrel
        have HVB : Hid (∀ j, u5.ownBlock = some j → w.heap.size ≤ j) := hvb
        clear hvb
        have HOm : Hid (OM wr base u5 ((rowL L).take k)) := hom
        have HOk : Hid (OwK wr w.heap.size (.slice ao L.length cap) (L.map (·.1))) := hok
        clear hom hok HO2 HB2
        by_cases hlt : k < L.length
        · obtain ⟨g, rfl⟩ := HOk.out.some (by simpa using Nat.lt_of_le_of_lt (Nat.zero_le _) hlt)
          obtain ⟨p, hp⟩ : ∃ p, L[k]? = some p := ⟨L[k], List.getElem?_eq_getElem hlt⟩
          have HP : Hid (L[k]? = some p) := hp
          have hpm := List.mem_of_getElem? hp
          have hWp := HM.out.keys p hpm
          have h512 := hWp.1
          have HWp : Hid (WfK p.1) := hWp
          have HRa : Hid (wr.rangeAt g (k * 512) (cellsL p.1)) := HOk.out.cellsAt (fun ks hks => by
            obtain ⟨q, hq, rfl⟩ := List.mem_map.1 hks
            exact HM.out.keys q hq) (by simp) (by rw [List.getElem?_map, hp]; rfl)
          have hcl := len_cellsL hWp
          obtain ⟨u, hu, hlk⟩ := HM.out.lookAll hpm HD1.out HD3.out
          obtain ⟨au, nu, cu, rfl⟩ := hu.slice
          have HU : Hid (Ow w base (.slice au nu cu) p.2) := hu
          obtain ⟨cs, hcsl, hcc, hcow⟩ := HOm.out
          obtain ⟨i1, hi1, hy0, hy1, hy2⟩ := info_parts info_mono
          obtain ⟨wS, hwS⟩ : ∃ wS, wS = (wr.alloc (.cells Try.zeroCells70 70)).setRow wr.heap.size (arr p.1) := ⟨_, rfl⟩
          have hbS : Below wr.heap.size wr wS := by rw [hwS]; exact below_setRow (below_alloc _) (Nat.le_refl _)
          have HBS : Hid (Below wr.heap.size wr wS.drew) := hbS.drew
          have HBW : Hid (Below w.heap.size w wS.drew) := below_step hbl hbS.drew
          have HowS : Hid (wS.drew.ownsRow base 46 2 u5 ((rowL L).take k).length (cs.flatMap fun c => [c.1, c.2])) := ownsRow_later hcow hbS.drew
          have hS0 : wS.drew.rangeAt wr.heap.size 0 (cellsL p.1) ∧ wS.drew.ownsMap Try.prog 70 RV b L.length D := by
            refine ⟨fun j v hj => ?_, HD1.out.kept (grown_of_below HBW.out none) (by simp)⟩
            show wS.cell? _ = _
            rw [Nat.zero_add, hwS, cell_of_row _ _ _ _ _ _ (setRow_heap _ _ _ _ _ _ (heap_alloc_new wr _)), arr_cells]
            simpa using hj
          have HCs : Hid (cs.length = ((rowL L).take k).length) := hcsl
          have HCC : Hid (∀ (i : Nat) (c : Value × Value) (m : Mn), cs[i]? = some c → ((rowL L).take k)[i]? = some m → Ow wr base c.1 m.1 ∧ OwI wr base c.2 m.2) := hcc
          have htk : ((rowL L).take k).length = k := by simp [rowL]; omega
          have hne5 : some wr.heap.size ≠ u5.ownBlock ∧ some b ≠ u5.ownBlock := by
            rcases hcow.2 with ⟨rfl, _⟩ | ⟨g5, cap5, cur5, rfl, _, hg5, _⟩
            · simp [Value.ownBlock]
            · have h1 := (Array.getElem?_eq_some_iff.1 hg5).1
              refine ⟨?_, ?_⟩
              · simp only [Value.ownBlock]; intro e; cases e; omega
              · simp only [Value.ownBlock]
                intro e
                cases e
                obtain ⟨es, clock, hbm⟩ := (HM.out.later hbl).isMap
                rw [hg5] at hbm
                cases hbm
          have HLk : Hid (∀ w' : World, w'.ownsMap Try.prog 70 RV b L.length D → (Instr.lookup 62 (.map (some b)) (.agg (cellsL p.1).toArray) false).run Try.prog w' = .ok (.agg #[.slice au nu cu]) w') := hlk
          have HNe : Hid (some wr.heap.size ≠ u5.ownBlock ∧ some b ≠ u5.ownBlock) := hne5
          have HTk : Hid (((rowL L).take k).length = k) := htk
          have hbase4 : base ≤ wr.heap.size := Nat.le_trans hbase hbl.size
          clear hp hpm hWp hu hcsl hcc hcow hbS hlk hne5 htk
          go_wp2_with (first
            | (refine wpList_load_mid rfl _ _ rfl g (k * 512) rfl (cellsL p.1) _ HRa.out under_arr rfl (by rw [info_arr, hcl]) ?_)
            | (refine wpList_store_row rfl _ _ _ rfl wr.heap.size (arr p.1) rfl rfl _ _ (heap_alloc_new wr _) (by rw [info_arr, arr_size, h512]) (by rw [arr_size, h512, hzs2]) (arr_one _) ?_))
          simp only [Act.put]
          rw [← hwS]
          have HWS : Hid (wS = (wr.alloc (.cells Try.zeroCells70 70)).setRow wr.heap.size (arr p.1)) := hwS
          clear hwS
          have hlk := HLk.out
          have hfield := field_coef (.slice au nu cu)
          have hi512 : (Try.prog.info? 70).map (·.size) = some (cellsL p.1).length := by rw [info_arr, hcl]
          have hu70 := under_arr
          refine wp_region_held_drew (S := fun w' => w'.rangeAt wr.heap.size 0 (cellsL p.1) ∧ w'.ownsMap Try.prog 70 RV b L.length D) (by kernel_rfl) hS0 (fun _ => ?_)
          refine wpAnyH_take (i := 0) (v := u5) rfl (by kernel_rfl) (by kernel_rfl) (by kernel_rfl) (fun _ _ _ h => h) (Or.inl ⟨by rfl, fun w' _ => by go_simp⟩) hS0 ?_
          simp only [Act.put, List.setIfInBounds_toArray]
          refine wpAnyH_take (i := 1) (v := .map (some b)) rfl (by kernel_rfl) (by kernel_rfl) (by kernel_rfl) (fun _ _ _ h => h) (Or.inl ⟨by rfl, fun w' _ => by go_simp⟩) hS0 ?_
          simp only [Act.put]
          refine wpAnyH_take (i := 2) (v := .agg (cellsL p.1).toArray) rfl (by kernel_rfl) (by kernel_rfl) (by kernel_rfl) (fun _ _ _ h => h) (yieldsIf_load_mid (by rfl) _ _ rfl wr.heap.size 0 rfl (cellsL p.1) _ (fun w' h => h.1) under_arr rfl hi512) hS0 ?_
          simp only [Act.put]
          refine wpAnyH_take (i := 5) (v := .agg (cellsL p.1).toArray) rfl (by kernel_rfl) (by kernel_rfl) (by kernel_rfl) (fun _ _ _ h => h) (yieldsIf_load_mid (by rfl) _ _ rfl wr.heap.size 0 rfl (cellsL p.1) _ (fun w' h => h.1) under_arr rfl hi512) hS0 ?_
          simp only [Act.put]
          refine wpAnyH_take (i := 3) (v := .agg #[.slice au nu cu]) rfl (by kernel_rfl) (by kernel_rfl) (by kernel_rfl) (fun _ _ _ h => h) (Or.inl ⟨by rfl, fun w' h => by have hh := hlk w' h.2; go_simp⟩) hS0 ?_
          simp only [Act.put]
          refine wpAnyH_take (i := 4) (v := .slice au nu cu) rfl (by kernel_rfl) (by kernel_rfl) (by kernel_rfl) (fun _ _ _ h => h) (Or.inl ⟨by rfl, fun w' h => by go_simp⟩) hS0 ?_
          simp only [Act.put]
          refine wpAnyH_ready (rs := [6]) (by kernel_rfl) (by simp) (AllReadyH.cons rfl (fun K hK => ?_) AllReadyH.nil)
          go_simp
          refine (unpacked_any p.1 _ h512 HWp.out.2).mono ?_
          rintro e w1 ⟨v', rfl, ho1, hb1⟩
          obtain ⟨ao1, cap1, rfl, q1, q2⟩ := ho1.shape
          refine hK.out _ _ (keepA hS0 hb1) (fun hS1 => ?_)
          clear hK K
          refine wpAnyH_take (i := 7) (v := .agg #[.slice au nu cu, .slice ao1 (unX p.1).length cap1]) rfl (by kernel_rfl) (by kernel_rfl) (by kernel_rfl) (fun _ _ _ h => h) (Or.inl ⟨by rfl, fun w' _ => by go_simp⟩) hS1 ?_
          simp only [Act.put, List.setIfInBounds_toArray]
          refine wpAnyH_ready (rs := [8]) (by kernel_rfl) (by simp) (AllReadyH.cons rfl (fun K hK => ?_) AllReadyH.nil)
          go_simp
          refine hK.out _ _ (keepA hS1 (below_alloc _)) (fun hS2 => ?_)
          clear hK K
          refine wpAnyH_ready (rs := [9]) (by kernel_rfl) (by simp) (AllReadyH.cons rfl (fun K hK => ?_) AllReadyH.nil)
          refine step_append_own rfl _ _ 22 rfl base 46 i1 _ 2 48 under_monos hi1 hy0 hy1 hy2 rfl (by decide) u5 ((rowL L).take k).length (cs.flatMap fun c => [c.1, c.2]) rfl (ownsRow_later (ownsRow_later HowS.out hb1) (below_alloc _)) ⟨w1.heap.size, 0, none⟩ 1 1 [.slice au nu cu, .slice ao1 (unX p.1).length cap1] rfl rfl ?_ ?_ (by rw [HTk.out]; unfold maxLen; omega) (by rw [HTk.out]; omega) ?_ ?_
          · intro j u hj
            rw [Addr.add_lit, Nat.zero_add, cell_of_row _ _ _ _ _ _ (heap_alloc_new _ _)]
            simpa using hj
          · intro u hu
            simp only [List.mem_cons, List.not_mem_nil, or_false] at hu
            rcases hu with rfl | rfl <;> rfl
          · exact Nat.le_trans hbase4 (Nat.le_trans HBS.out.size (Nat.le_trans hb1.size (below_alloc _).size))
          intro v2 w5 hown5 hgrow5 hloc5
          refine hK.out _ _ (keepG hS2 hgrow5 HNe.out.1 HNe.out.2) (fun hS5 => ?_)
          clear hK K
          simp only [Act.put, List.setIfInBounds_toArray]
          refine wpAnyH_take (i := 10) (v := v2) rfl (by kernel_rfl) (by kernel_rfl) (by kernel_rfl) (fun _ _ _ h => h) (Or.inl ⟨by rfl, fun w' _ => by go_simp⟩) hS5 ?_
          simp only [Act.put]
          refine wpAnyH_done (by kernel_rfl) ?_ _
          have hbW4 : Below wr.heap.size wr (w1.alloc (.cells #[.slice au nu cu, .slice ao1 (unX p.1).length cap1] 46)) := below_step (below_step HBS.out hb1) (below_alloc _)
          have hb14 := below_alloc (w := w1) (.cells #[.slice au nu cu, .slice ao1 (unX p.1).length cap1] 46)
          have hom5 := OM.snoc (m := (p.2, unX p.1)) (p := (rowL L).take k) HCs.out (fun i c m h1 h2 => ⟨(HCC.out i c m h1 h2).1.since hbW4, (HCC.out i c m h1 h2).2.later hbW4⟩) (ownsRow_later (ownsRow_later HowS.out hb1) (below_alloc _)) ((HU.out.since (below_step hbl hbW4))) ((ho1.mono (Nat.le_trans hbase4 HBS.out.size)).later hb14) hown5 hgrow5 rfl
          have htake : (rowL L).take k ++ [(p.2, unX p.1)] = (rowL L).take (k + 1) := by
            rw [take_get (x := ((p.2, unX p.1) : Mn)) (by rw [rowL, List.getElem?_map, HP.out]; rfl)]
          rw [htake] at hom5
          have HOm5 : Hid (OM w5 base v2 ((rowL L).take (k + 1))) := hom5
          have HOk5 : Hid (OwK w5 w.heap.size (.slice (some ⟨g, 0, none⟩) L.length cap) (L.map (·.1))) := (ownsRow_later HOk.out hbW4).kept hgrow5 (ownsRow_apart (ownsRow_later HOk.out hbW4) (ownsRow_later (ownsRow_later HowS.out hb1) (below_alloc _)) (by decide))
          have HB5 : Hid (Below w.heap.size w w5) := (below_step hbl hbW4).grown hgrow5 (below_step hbl hbW4).size HVB.out
          have HV2 : Hid (∀ j, v2.ownBlock = some j → w.heap.size ≤ j) := by
            intro j hj
            rcases hloc5 with h | h
            · exact HVB.out j (h ▸ hj)
            · rw [h] at hj
              cases hj
              exact Nat.le_trans (below_step hbl (below_step HBS.out hb1)).size (below_alloc _).size
          clear hbW4 hb14 hom5 htake hown5 hgrow5 hloc5 hS5 hS2 hS1 ho1 hb1 hlk hfield hS0
          go_wp2
          go_roundw
          case rel => exact ⟨k + 1, by omega, by go_num, HOm5.out, HOk5.out, HV2.out, HB5.out⟩
          case measure => simp [intOf]; omega
        · have hke : k = L.length := by omega
          subst hke
          have hom := HOm.out
          rw [List.take_of_length_le (by simp [rowL])] at hom
          have HOm2 : Hid (OM wr base u5 (rowL L)) := hom
          clear hom HOm
          go_wp2
          go_ret
          exact ⟨_, rfl, HOm2.out, hbl⟩

end Go.Proofs.Ytfifgmcjilkigaa
