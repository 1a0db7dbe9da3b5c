/- Texts of the proof, one behind the other. -/
import Derived.Test.YtdjmjhlbjcgoiaaGreatDoorOwn8
import Derived.Test.YtdjmjhlbjcgoiaaGreatDoorOwn7
import Derived.Test.YtdjmjhlbjcgoiaaGreatDoorOwn2
set_option maxRecDepth 1000000
set_option maxHeartbeats 6400000
namespace Go.Proofs.YtdjmjhlbjcgoiaaGreatDoor
open Go.RowKit Go.Maps
theorem OwK.slice {w : World} {base : Nat} {v : Value} {kss : List (List Nat)} (h : OwK w base v kss) : ∃ ao cap, v = .slice ao kss.length cap := by
 rcases h.2 with ⟨rfl, hn⟩ | ⟨g, cap, cur, rfl, _⟩
 ·exact ⟨_, 0, by rw [hn]⟩
 exact ⟨_, cap, rfl⟩
theorem OwK.notIter {w : World} {base r : Nat} {v : Value} {kss : List (List Nat)} {m : Option Nat} {s c : Nat} {seen : Array Nat} (h : OwK w base v kss) (hr : w.heap[r]? = some (.mapIter m s seen c)) : v.ownBlock = none ∨ v.ownBlock ≠ some r := by
 rcases h.2 with ⟨rfl, _⟩ | ⟨g, cap, cur, rfl, _, hg, _⟩
 ·exact .inl rfl
 refine .inr ?_
 simp only [Value.ownBlock]
 intro e
 cases e
 rw [hg] at hr
 cases hr
theorem OwK.notMap {w : World} {base b : Nat} {v : Value} {kss : List (List Nat)} {es : Array MapEntry} {clock : Nat} (h : OwK w base v kss) (hb : w.heap[b]? = some (.map es clock)) : some b ≠ v.ownBlock := by
 rcases h.2 with ⟨rfl, _⟩ | ⟨g, cap, cur, rfl, _, hg, _⟩
 ·simp [Value.ownBlock]
 simp only [Value.ownBlock]
 intro e
 cases e
 rw [hg] at hb
 cases hb
theorem OwK.base {w : World} {base : Nat} {v : Value} {kss : List (List Nat)} (h : OwK w base v kss) : ∀ k, v.ownBlock = some k → base ≤ k := by
 intro k hk
 rcases h.2 with ⟨rfl, _⟩ | ⟨g, cap, cur, rfl, hb, _⟩
 ·cases hk
 simp only [Value.ownBlock, zX] at hk
 omega
theorem xGD {w : World} {b r n cnt : Nat} {D : DataW Value} {left : Lit → Bool} (h : w.ranges Tryz.prog 160 RVY b r n D left cnt) : (∃ m s seen c, w.heap[r]? = some (.mapIter m s seen c)) ∧ ∃ es clock, w.heap[b]? = some (.map es clock) := by
 obtain ⟨es, clock, since, seen, c0, hb, _, _, _, hit, _⟩ := h
 exact ⟨⟨_, _, _, _, hit⟩, _, _, hb⟩
theorem OwK.held {w w' : World} {base : Nat} {v : Value} {kss : List (List Nat)} {row : Option Nat} (h : OwK w base v kss) (hg : w.grownBy w' row) (hne : v.ownBlock = none ∨ v.ownBlock ≠ row) : OwK w' base v kss := World.ownsRow.kept h hg hne
theorem grown_alloc_set (w : World) (o : Obj) (cs : Array Value) (o' : Obj) : w.grownBy (((w.alloc o).setRow w.heap.size cs).alloc o') none := by
 have h1 : Below w.heap.size w ((w.alloc o).setRow w.heap.size cs) := xBM (zA o) (Nat.le_refl _)
 exact xAA (zS h1 (zA o')) none
theorem flat_snoc (kss : List (List Nat)) (k : List Nat) : kss.flatMap cellsL ++ cellsL k = (kss ++ [k]).flatMap cellsL := by simp
def rowLY (L : LkY) : List Mn := L.map fun p => ((p.2, unX p.1) : Mn)
theorem OwK.cellsAt {w : World} {base g n cap : Nat} {kss : List (List Nat)} (h : OwK w base (.slice (some ⟨g, 0, none⟩) n cap) kss) (hw : ∀ ks ∈ kss, WfK ks) (hn : n = kss.length) {k : Nat} {ks : List Nat} (hk : kss[k]? = some ks) : w.rangeAt g (k * 512) (cellsL ks) := by
 subst hn
 intro j v hj
 have h5 : j < 512 := by
  have := (zB.1 hj).1
  rw [xCJ (hw ks (zD hk))] at this
  exact this
 have hkl := (zB.1 hk).1
 have hf := flat_get hw hk h5
 rw [hj] at hf
 have hb : k * 512 + j < kss.length * 512 := by omega
 rw [World.ownsRow.cellAt h _ hb]
 obtain ⟨ha, hb'⟩ := zB.1 hf
 simp [← hb']
theorem OwK.some {w : World} {base : Nat} {ao : Option Addr} {n cap : Nat} {kss : List (List Nat)} (h : OwK w base (.slice ao n cap) kss) (h0 : 0 < kss.length) : ∃ g, ao = some ⟨g, 0, none⟩ := by
 rcases h.2 with ⟨hv, hn⟩ | ⟨g, cap, cur, hv, _⟩
 ·omega
 simp only [zZ] at hv
 exact ⟨g, hv.1⟩
theorem OM.mono {w : World} {base b' : Nat} {v : Value} {p : List Mn} (h : OM w base v p) (hb : b' ≤ base) : OM w b' v p := by
 obtain ⟨cs, hl, hc, ho⟩ := h
 refine ⟨cs, hl, fun i c m h1 h2 => ⟨(hc i c m h1 h2).1.mono hb, (hc i c m h1 h2).2.mono hb⟩, ho.1, ?_⟩
 rcases ho.2 with h | ⟨g, cap, cur, rfl, hg, r⟩
 ·exact .inl h
 exact .inr ⟨g, cap, cur, rfl, Nat.le_trans hb hg, r⟩
theorem row_any (b base : Nat) (L : LkY) (w : World) (h : MapOk w base b L) (hL : L.length ≤ 257) (hbase : base ≤ w.heap.size) :
  Calls Tryz.prog 67 #[.map (some b)] w fun e w' => ∃ v, e = .returned v ∧ OM w' base v (rowLY L) ∧ Below w.heap.size w w' := by
 obtain ⟨i0, hi, hz0, hz1, hz2⟩ := info_parts info_key
 have HM : Hid (MapOk w base b L) := h
 obtain ⟨D, hD1, hD2, hD3, hD4⟩ := h.own
 have HCol : Hid (Col L [] (Maps.has D)) := Col.start h hD3 hD4
 have HD3 : Hid (∀ k c, (k, c) ∈ L → ∃ v, (∀ z, D.atKey (kl k) z = .held (.agg #[v])) ∧ Ow w base v c ∧ Maps.has D (kl k) = true) := hD3
 have HD1 : Hid (w.ownsMap Tryz.prog 160 RVY b L.length D) := hD1
 have HD2 : Hid (Maps.size D = L.length) := hD2
 have HLen : Hid (∀ ty, (Builtin.len_ #[109] ty #[.map (some b)]).run Tryz.prog w = .ok (.int .i64 (L.length : Int)) w) := fun ty => h.len ty
 have hzs : (Value.agg Tryz.zeroCells160).cells.size = 512 := Tryz.zeroCells160_size
 have hzs2 : Tryz.zeroCells160.size = 512 := Tryz.zeroCells160_size
 have hblt := h.lt
 clear h hD1 hD2 hD3 hD4
 go_enter Tryz.func67, Tryz.ntmps67
 go_wp2_with fail
 rw [HLen.out]
 go_wp2_with (first
  | (at_make; refine wpList_make_own _ rfl _ _ 165 rfl w.heap.size 160 i0 _ 512 under_keys hi hz0 hz1 .i64 .i64 _ L.length rfl rfl rfl (by rw [hz2]; omega) (by unfold maxLen; omega) (Nat.le_refl _) ?_; intro w0 hown0 hgrow0)
  | (at_range; refine wpList_range_own _ rfl _ _ rfl _ _ keyed xES RVY b L.length D rfl (HD1.out.kept hgrow0 (by simp)) ?_; intro w1 hrg hg1 hs1))
 have hB1 : Below w.heap.size w w1 := ((Below.refl _ _).grown hgrow0 (Nat.le_refl _) (by intro k hk; cases hk)).grown hg1 hgrow0.size (by intro k hk; cases hk)
 have HO1 : Hid (OwK w1 w.heap.size (.slice (some ⟨w.heap.size, 0, none⟩) 0 L.length) []) := World.ownsRow.kept hown0 hg1 (.inr (by simp [Value.ownBlock]))
 obtain ⟨R0, hR0⟩ : ∃ R0, R0 = w0.heap.size := ⟨_, rfl⟩
 rw [← hR0] at hrg ⊢
 have HRg : Hid (w1.ranges Tryz.prog 160 RVY b R0 L.length D (Maps.has D) (Maps.size D)) := hrg
 have hRw : w.heap.size ≤ R0 := by rw [hR0]; exact hgrow0.size
 have HBB : Hid (Below w.heap.size w w1) := hB1
 clear hown0 hgrow0 hg1 hs1 hrg hB1 hR0
 simp only [Act.put, sA, sC, sB]
 go_loopw [3] (fun v wr => ∃ (kss : List (List Nat)) (left : Lit → Bool) (cnt : Nat), OwK wr w.heap.size v kss ∧ wr.ranges Tryz.prog 160 RVY b R0 L.length D left cnt ∧ Col L kss left ∧ kss.length + cnt ≤ L.length ∧ Below w.heap.size w wr) (fun _ wr => wr.rangeLeft b R0)
 case atStart => exact ⟨[], Maps.has D, Maps.size D, HO1.out, HRg.out, HCol.out, by rw [HD2.out]; simp, HBB.out⟩
 case round =>
  obtain ⟨kss, left, cnt, ho, hrg, hcol, hcnt, hbl⟩ := hrel
  obtain ⟨ao, cap, rfl⟩ := ho.slice
  have hle := hrg.left_eq
  have HO : Hid (OwK wr w.heap.size (.slice ao kss.length cap) kss) := ho
  have HR : Hid (wr.ranges Tryz.prog 160 RVY b R0 L.length D left cnt) := hrg
  have HC : Hid (Col L kss left) := hcol
  have HLe : Hid (wr.rangeLeft b R0 = cnt) := hle
  clear ho hrg hcol hle HO1 HRg HCol HBB HLen
  go_wp2_with (first
   | (at_next; refine wpList_next_ranges _ rfl _ rfl 160 keyed RVY (id : Value → Value) (id : Value → Value) (fun key _ _ => ⟨key, rfl⟩) (fun v _ _ => ⟨v, rfl⟩) b R0 L.length D left cnt rfl HR.out ?_ ?_))
  case refine_2 =>
   intro key cc l yd yp w2 cnt2 hkey hlk hv hat hrg2 hlt hg2 hs2 hen
   obtain ⟨p, hp, rfl⟩ := HC.out.only l hlk
   have hWp := HM.out.keys p hp
   obtain rfl : key = .agg (arr p.1) := keyed.inj hkey (xCU hWp)
   have h512 := hWp.1
   obtain ⟨⟨_, _, _, _, hit⟩, _⟩ := xGD HR.out
   have ho2 := HO.out.held hg2 (HO.out.notIter hit)
   have hga := grown_alloc_set w2 (.cells Tryz.zeroCells160 160) (arr p.1) (.cells (arr p.1) 160)
   have ho3 := ho2.held hga (by cases hv : (Value.slice ao kss.length cap).ownBlock <;> simp)
   have hrg3 := hrg2.kept hga (by simp) (by simp)
   have hbl3 : Below w.heap.size w (((w2.alloc (.cells Tryz.zeroCells160 160)).setRow w2.heap.size (arr p.1)).alloc (.cells (arr p.1) 160)) :=
    (hbl.grown hg2 hbl.size (by intro k hk; cases hk; exact hRw)).grown hga (Nat.le_trans hbl.size hg2.size) (by intro k hk; cases hk)
   have HO3 : Hid (OwK (((w2.alloc (.cells Tryz.zeroCells160 160)).setRow w2.heap.size (arr p.1)).alloc (.cells (arr p.1) 160)) w.heap.size (.slice ao kss.length cap) kss) := ho3
   have HR3 : Hid ((((w2.alloc (.cells Tryz.zeroCells160 160)).setRow w2.heap.size (arr p.1)).alloc (.cells (arr p.1) 160)).ranges Tryz.prog 160 RVY b R0 L.length D (fun z => left z && !z.sameKey (kl p.1)) cnt2) := hrg3
   have HB3 : Hid (Below w.heap.size w (((w2.alloc (.cells Tryz.zeroCells160 160)).setRow w2.heap.size (arr p.1)).alloc (.cells (arr p.1) 160))) := hbl3
   have HCs : Hid (Col L (kss ++ [p.1]) (fun z => left z && !z.sameKey (kl p.1))) := HC.out.step HM.out.keys hp hlk
   have HWp : Hid (WfK p.1) := hWp
   have HLt : Hid (cnt2 < cnt) := hlt
   have hkl : kss.length ≤ 257 := by omega
   have HNew : Hid (∀ (j : Nat) (u : Value), (cellsL p.1)[j]? = some u → (((w2.alloc (.cells Tryz.zeroCells160 160)).setRow w2.heap.size (arr p.1)).alloc (.cells (arr p.1) 160)).cell? ((⟨((w2.alloc (.cells Tryz.zeroCells160 160)).setRow w2.heap.size (arr p.1)).heap.size, 0, none⟩ : Addr).add j) = some u) := by
    intro j u hu
    rw [Addr.add_lit, Nat.zero_add, cell_of_row _ _ _ _ _ _ (yU _ _), arr_cells]
    simpa using hu
   have hcl512 := xCJ hWp
   have HOne : Hid (∀ u ∈ cellsL p.1, u.oneCell' = true) := by
    intro u hu
    obtain ⟨n, _, rfl⟩ := yL.1 hu
    rfl
   clear hkey hlk hv hat hrg2 hlt hg2 hs2 hit ho2 hga ho3 hrg3 hbl3 hWp hp
   go_wp2_with (first
    | (refine wpList_store_row rfl _ _ _ rfl w2.heap.size (arr p.1) rfl rfl _ _ (yU w2 _) (by rw [xAZ, xAN, h512]) (by rw [xAN, h512, hzs2]) (arr_one _) ?_)
    | (refine wpList_load_row rfl _ _ rfl w2.heap.size rfl _ _ _ _ (setRow_heap _ _ _ _ _ _ (yU w2 _)) xAU rfl (by rw [xAZ, xAN, h512]) ?_)
    | (refine xEN rfl _ _ _ rfl #[(0, .agg (arr p.1))] (by simp [Act.put, Act.eval]) _ (run_buildKey _ h512) ?_)
    | (at_builtin; refine wpList_append_own _ rfl _ _ 165 rfl w.heap.size 160 i0 _ 512 512 under_keys hi hz0 hz1 hz2 hzs (by decide) (.slice ao kss.length cap) kss.length (kss.flatMap cellsL) rfl HO3.out _ 1 1 (cellsL p.1) rfl (by rw [hcl512]) HNew.out HOne.out (by unfold maxLen; omega) (by omega) HB3.out.size ?_; intro v' w5 hown' hgrow' hnil))
   have hr5 := HR3.out.kept hgrow' (HO3.out.notMap (xGD HR3.out).2.choose_spec.choose_spec) (by
    obtain ⟨⟨_, _, _, _, hit⟩, _⟩ := xGD HR3.out
    rcases HO3.out.notIter hit with h | h
    ·rw [h]; simp
    exact fun e => h e.symm)
   refine ⟨⟨kss ++ [p.1], _, cnt2, ?_, hr5, HCs.out, by have := HLt.out; simp; omega, HB3.out.grown hgrow' HB3.out.size HO3.out.base⟩, by rw [hr5.left_eq, HLe.out]; exact HLt.out⟩
   unfold OwK
   rw [← flat_snoc, zF]
   exact hown'
  case refine_1 =>
   intro hc0 hl0
   have hs := HC.out.sorted HM.out.rising hl0
   have HS : Hid (kss.mergeSort leK = L.map (·.1)) := hs
   have hkl : kss.length = L.length := by
    have := congrArg List.length hs
    simpa using this
   have HW : Hid (∀ ks ∈ kss, WfK ks) := fun ks hk => by
    obtain ⟨c, hc⟩ := xBI.1 (HC.out.mem ks hk)
    exact HM.out.keys _ hc
   rw [hkl] at HO ⊢
   have HKL : Hid (kss.length = L.length) := hkl
   clear hc0 hl0 hs hkl
   go_wp2_with fail
   refine (sortKeys_any kss _ _ w.heap.size HW.out HO.out (by rw [HKL.out]; omega)).mono ?_
   rintro e w2 ⟨rfl, ho2, hg2⟩
   rw [HS.out] at ho2
   have HO2 : Hid (OwK w2 w.heap.size (.slice ao L.length cap) (L.map (·.1))) := ho2
   have HB2 : Hid (Below w.heap.size w w2) := hbl.grown hg2 hbl.size HO.out.base
   clear ho2 hg2 hbl HC HR HO HLe HS HW
   go_wp2
   go_loopw [5, 25] (fun v i wr => ∃ k : Nat, k ≤ L.length ∧ i = .int .i64 k ∧ OM wr base v ((rowLY L).take k) ∧ OwK wr w.heap.size (.slice ao L.length cap) (L.map (·.1)) ∧ (∀ j, v.ownBlock = some j → w.heap.size ≤ j) ∧ Below w.heap.size w wr) (fun _ i _ => L.length - (intOf i).toNat)
   case atStart => exact ⟨0, Nat.zero_le _, rfl, OM.nil _ _, HO2.out, fun j hj => (by cases hj), HB2.out⟩
   case round =>
    obtain ⟨k, hk, rfl, hom, hok, hvb, hbl⟩ := hrel
    have HVB : Hid (∀ j, u5.ownBlock = some j → w.heap.size ≤ j) := hvb
    clear hvb
    have HOm : Hid (OM wr base u5 ((rowLY L).take k)) := hom
    have HOk : Hid (OwK wr w.heap.size (.slice ao L.length cap) (L.map (·.1))) := hok
    clear hom hok HO2 HB2
    by_cases hlt : k < L.length
    ·obtain ⟨g, rfl⟩ := HOk.out.some (by simpa using Nat.lt_of_le_of_lt (Nat.zero_le _) hlt)
     obtain ⟨p, hp⟩ : ∃ p, L[k]? = some p := ⟨L[k], zC hlt⟩
     have HP : Hid (L[k]? = some p) := hp
     have hpm := zD hp
     have hWp := HM.out.keys p hpm
     have h512 := hWp.1
     have HWp : Hid (WfK p.1) := hWp
     have HRa : Hid (wr.rangeAt g (k * 512) (cellsL p.1)) := HOk.out.cellsAt (fun ks hks => by
      obtain ⟨q, hq, rfl⟩ := yL.1 hks
      exact HM.out.keys q hq) (by simp) (by rw [zU, hp]; rfl)
     have hcl := xCJ hWp
     obtain ⟨u, hu, hlk⟩ := HM.out.lookAll hpm HD1.out HD3.out
     obtain ⟨au, nu, cu, rfl⟩ := hu.slice
     have HU : Hid (Ow w base (.slice au nu cu) p.2) := hu
     obtain ⟨cs, hcsl, hcc, hcow⟩ := HOm.out
     obtain ⟨i1, hi1, hy0, hy1, hy2⟩ := info_parts info_mono
     obtain ⟨wS, hwS⟩ : ∃ wS, wS = (wr.alloc (.cells Tryz.zeroCells160 160)).setRow wr.heap.size (arr p.1) := ⟨_, rfl⟩
     have hbS : Below wr.heap.size wr wS := by rw [hwS]; exact xBM (zA _) (Nat.le_refl _)
     have HBS : Hid (Below wr.heap.size wr wS.drew) := hbS.drew
     have HBW : Hid (Below w.heap.size w wS.drew) := zS hbl hbS.drew
     have HowS : Hid (wS.drew.ownsRow base 37 2 u5 ((rowLY L).take k).length (cs.flatMap fun c => [c.1, c.2])) := xAC hcow hbS.drew
     have hS0 : wS.drew.rangeAt wr.heap.size 0 (cellsL p.1) ∧ wS.drew.ownsMap Tryz.prog 160 RVY b L.length D := by
      refine ⟨fun j v hj => ?_, HD1.out.kept (xAA HBW.out none) (by simp)⟩
      show wS.cell? _ = _
      rw [Nat.zero_add, hwS, cell_of_row _ _ _ _ _ _ (setRow_heap _ _ _ _ _ _ (yU wr _)), arr_cells]
      simpa using hj
     have HCs : Hid (cs.length = ((rowLY L).take k).length) := hcsl
     have HCC : Hid (∀ (i : Nat) (c : Value × Value) (m : Mn), cs[i]? = some c → ((rowLY L).take k)[i]? = some m → Ow wr base c.1 m.1 ∧ OwI wr base c.2 m.2) := hcc
     have htk : ((rowLY L).take k).length = k := by simp [rowLY]; omega
     have hne5 : some wr.heap.size ≠ u5.ownBlock ∧ some b ≠ u5.ownBlock := by
      rcases hcow.2 with ⟨rfl, _⟩ | ⟨g5, cap5, cur5, rfl, _, hg5, _⟩
      ·simp [Value.ownBlock]
      have h1 := (zL.1 hg5).1
      refine ⟨?_, ?_⟩
      ·simp only [Value.ownBlock]; intro e; cases e; omega
      simp only [Value.ownBlock]
      intro e
      cases e
      obtain ⟨es, clock, hbm⟩ := (HM.out.later hbl).isMap
      rw [hg5] at hbm
      cases hbm
     have HLk : Hid (∀ w' : World, w'.ownsMap Tryz.prog 160 RVY b L.length D → (Instr.lookup 109 (.map (some b)) (.agg (cellsL p.1).toArray) false).run Tryz.prog w' = .ok (.agg #[.slice au nu cu]) w') := hlk
     have HNe : Hid (some wr.heap.size ≠ u5.ownBlock ∧ some b ≠ u5.ownBlock) := hne5
     have HTk : Hid (((rowLY L).take k).length = k) := htk
     have hbase4 : base ≤ wr.heap.size := Nat.le_trans hbase hbl.size
     clear hp hpm hWp hu hcsl hcc hcow hbS hlk hne5 htk
     go_wp2_with (first
      | (refine wpList_load_mid rfl _ _ rfl g (k * 512) rfl (cellsL p.1) _ HRa.out xAU rfl (by rw [xAZ, hcl]) ?_)
      | (refine wpList_store_row rfl _ _ _ rfl wr.heap.size (arr p.1) rfl rfl _ _ (yU wr _) (by rw [xAZ, xAN, h512]) (by rw [xAN, h512, hzs2]) (arr_one _) ?_))
     simp only [Act.put]
     rw [← hwS]
     have HWS : Hid (wS = (wr.alloc (.cells Tryz.zeroCells160 160)).setRow wr.heap.size (arr p.1)) := hwS
     clear hwS
     have hlk := HLk.out
     have hfield := field_coef (.slice au nu cu)
     have hi512 : (Tryz.prog.info? 160).map (·.size) = some (cellsL p.1).length := by rw [xAZ, hcl]
     have hu70 := xAU
     refine wp_region_held_drew (S := fun w' => w'.rangeAt wr.heap.size 0 (cellsL p.1) ∧ w'.ownsMap Tryz.prog 160 RVY b L.length D) (by kernel_rfl) hS0 (fun _ => ?_)
     refine wpAnyH_take (i := 0) (v := u5) rfl (by kernel_rfl) (by kernel_rfl) (by kernel_rfl) (fun _ _ _ h => h) (Or.inl ⟨by rfl, fun w' _ => by go_simp⟩) hS0 ?_
     simp only [Act.put, sA]
     refine wpAnyH_take (i := 1) (v := .map (some b)) rfl (by kernel_rfl) (by kernel_rfl) (by kernel_rfl) (fun _ _ _ h => h) (Or.inl ⟨by rfl, fun w' _ => by go_simp⟩) hS0 ?_
     simp only [Act.put]
     refine wpAnyH_take (i := 2) (v := .agg (cellsL p.1).toArray) rfl (by kernel_rfl) (by kernel_rfl) (by kernel_rfl) (fun _ _ _ h => h) (yieldsIf_load_mid (by rfl) _ _ rfl wr.heap.size 0 rfl (cellsL p.1) _ (fun w' h => h.1) xAU rfl hi512) hS0 ?_
     simp only [Act.put]
     refine wpAnyH_take (i := 5) (v := .agg (cellsL p.1).toArray) rfl (by kernel_rfl) (by kernel_rfl) (by kernel_rfl) (fun _ _ _ h => h) (yieldsIf_load_mid (by rfl) _ _ rfl wr.heap.size 0 rfl (cellsL p.1) _ (fun w' h => h.1) xAU rfl hi512) hS0 ?_
     simp only [Act.put]
     refine wpAnyH_take (i := 3) (v := .agg #[.slice au nu cu]) rfl (by kernel_rfl) (by kernel_rfl) (by kernel_rfl) (fun _ _ _ h => h) (Or.inl ⟨by rfl, fun w' h => by have hh := hlk w' h.2; go_simp⟩) hS0 ?_
     simp only [Act.put]
     refine wpAnyH_take (i := 4) (v := .slice au nu cu) rfl (by kernel_rfl) (by kernel_rfl) (by kernel_rfl) (fun _ _ _ h => h) (Or.inl ⟨by rfl, fun w' h => by go_simp⟩) hS0 ?_
     simp only [Act.put]
     refine wpAnyH_ready (rs := [6]) (by kernel_rfl) (by simp) (AllReadyH.cons rfl (fun K hK => ?_) AllReadyH.nil)
     go_simp
     refine (unpacked_any p.1 _ h512 HWp.out.2).mono ?_
     rintro e w1 ⟨v', rfl, ho1, hb1⟩
     obtain ⟨ao1, cap1, rfl, q1, q2⟩ := ho1.shape
     refine hK.out _ _ (keepA hS0 hb1) (fun hS1 => ?_)
     clear hK K
     refine wpAnyH_take (i := 7) (v := .agg #[.slice au nu cu, .slice ao1 (unX p.1).length cap1]) rfl (by kernel_rfl) (by kernel_rfl) (by kernel_rfl) (fun _ _ _ h => h) (Or.inl ⟨by rfl, fun w' _ => by go_simp⟩) hS1 ?_
     simp only [Act.put, sA]
     refine wpAnyH_ready (rs := [8]) (by kernel_rfl) (by simp) (AllReadyH.cons rfl (fun K hK => ?_) AllReadyH.nil)
     go_simp
     refine hK.out _ _ (keepA hS1 (zA _)) (fun hS2 => ?_)
     clear hK K
     refine wpAnyH_ready (rs := [9]) (by kernel_rfl) (by simp) (AllReadyH.cons rfl (fun K hK => ?_) AllReadyH.nil)
     refine step_append_own rfl _ _ 31 rfl base 37 i1 _ 2 48 under_monos hi1 hy0 hy1 hy2 rfl (by decide) u5 ((rowLY L).take k).length (cs.flatMap fun c => [c.1, c.2]) rfl (xAC (xAC HowS.out hb1) (zA _)) ⟨w1.heap.size, 0, none⟩ 1 1 [.slice au nu cu, .slice ao1 (unX p.1).length cap1] rfl rfl ?_ ?_ (by rw [HTk.out]; unfold maxLen; omega) (by rw [HTk.out]; omega) ?_ ?_
     ·intro j u hj
      rw [Addr.add_lit, Nat.zero_add, cell_of_row _ _ _ _ _ _ (yU _ _)]
      simpa using hj
     ·intro u hu
      simp only [yB, List.not_mem_nil, or_false] at hu
      rcases hu with rfl | rfl <;> rfl
     ·exact Nat.le_trans hbase4 (Nat.le_trans HBS.out.size (Nat.le_trans hb1.size (zA _).size))
     intro v2 w5 hown5 hgrow5 hloc5
     refine hK.out _ _ (keepG hS2 hgrow5 HNe.out.1 HNe.out.2) (fun hS5 => ?_)
     clear hK K
     simp only [Act.put, sA]
     refine wpAnyH_take (i := 10) (v := v2) rfl (by kernel_rfl) (by kernel_rfl) (by kernel_rfl) (fun _ _ _ h => h) (Or.inl ⟨by rfl, fun w' _ => by go_simp⟩) hS5 ?_
     simp only [Act.put]
     refine wpAnyH_done (by kernel_rfl) ?_ _
     have hbW4 : Below wr.heap.size wr (w1.alloc (.cells #[.slice au nu cu, .slice ao1 (unX p.1).length cap1] 37)) := zS (zS HBS.out hb1) (zA _)
     have hb14 := zA (w := w1) (.cells #[.slice au nu cu, .slice ao1 (unX p.1).length cap1] 37)
     have hom5 := OM.snoc (m := (p.2, unX p.1)) (p := (rowLY L).take k) HCs.out (fun i c m h1 h2 => ⟨(HCC.out i c m h1 h2).1.since hbW4, (HCC.out i c m h1 h2).2.later hbW4⟩) (xAC (xAC HowS.out hb1) (zA _)) ((HU.out.since (zS hbl hbW4))) ((ho1.mono (Nat.le_trans hbase4 HBS.out.size)).later hb14) hown5 hgrow5 rfl
     have htake : (rowLY L).take k ++ [(p.2, unX p.1)] = (rowLY L).take (k + 1) := by
      rw [xAY (x := ((p.2, unX p.1) : Mn)) (by rw [rowLY, zU, HP.out]; rfl)]
     rw [htake] at hom5
     have HOm5 : Hid (OM w5 base v2 ((rowLY L).take (k + 1))) := hom5
     have HOk5 : Hid (OwK w5 w.heap.size (.slice (some ⟨g, 0, none⟩) L.length cap) (L.map (·.1))) := (xAC HOk.out hbW4).kept hgrow5 (xCD (xAC HOk.out hbW4) (xAC (xAC HowS.out hb1) (zA _)) (by decide))
     have HB5 : Hid (Below w.heap.size w w5) := (zS hbl hbW4).grown hgrow5 (zS hbl hbW4).size HVB.out
     have HV2 : Hid (∀ j, v2.ownBlock = some j → w.heap.size ≤ j) := by
      intro j hj
      rcases hloc5 with h | h
      ·exact HVB.out j (h ▸ hj)
      rw [h] at hj
      cases hj
      exact Nat.le_trans (zS hbl (zS HBS.out hb1)).size (zA _).size
     clear hbW4 hb14 hom5 htake hown5 hgrow5 hloc5 hS5 hS2 hS1 ho1 hb1 hlk hfield hS0
     go_wp2
     go_roundw
     case rel => exact ⟨k + 1, by omega, by go_num, HOm5.out, HOk5.out, HV2.out, HB5.out⟩
     case measure => simp [intOf]; omega
    have hke : k = L.length := by omega
    subst hke
    have hom := HOm.out
    rw [zO (by simp [rowLY])] at hom
    have HOm2 : Hid (OM wr base u5 (rowLY L)) := hom
    clear hom HOm
    go_wp2
    go_ret
    exact ⟨_, rfl, HOm2.out, hbl⟩
def sumE (p q : List Mn) : Int := if (puts [] p).2 = 0 then (puts (puts [] p).1 q).2 else (puts [] p).2
def sumL (p q : List Mn) : List Mn := if sumE p q = 0 then rowLY (puts (puts [] p).1 q).1 else []
theorem len_puts {p : List Mn} : ∀ {L : LkY}, (puts L p).2 = 0 → L.length ≤ 256 → (puts L p).1.length ≤ 256 := by
 induction p with
 | nil => intro L _ h; exact h
 | cons m r ih =>
  intro L h hL
  unfold puts at h ⊢
  split at h
  ·rename_i h0
   rw [if_pos h0]
   exact ih h (len_putL h0 hL)
  rename_i h0
  exact absurd h h0
theorem product_any (v u : Value) (xs ys : List Nat) (w : World) (h : Sl w v xs) (h' : Sl w u ys) (h64 : xs.length ≤ 64) (h64' : ys.length ≤ 64) :
  Calls Tryz.prog 124 #[v, u] w fun e w' => ∃ v' zs, e = .returned v' ∧ Ow w' w.heap.size v' zs ∧ val zs = val xs * val ys ∧ Below w.heap.size w w' := by
 obtain ⟨ao, cap, rfl, hao, hca, hcl⟩ := h.flat
 obtain ⟨bo, cap', rfl, hbo, hcb, hcl'⟩ := h'.flat
 unfold maxLen at hca hcb
 obtain ⟨i0, hi, hz0, hz1, hz2⟩ := info_parts info_u32
 have HS : Hid (Sl w (.slice ao xs.length cap) xs) := h
 have HS' : Hid (Sl w (.slice bo ys.length cap') ys) := h'
 clear h h' hcl hcl'
 go_enter Tryz.func124, Tryz.ntmps124
 go_wp2_with (first
  | (at_make; refine wpList_make_full _ rfl _ _ 35 rfl w.heap.size 38 i0 (.int .u32 0) 1 xDT hi hz0 hz1 .i64 .i64 _ _ (xs.length + ys.length) rfl rfl (by omega) (by omega) (by rw [hz2]; omega) (by unfold maxLen; omega) (Nat.le_refl _) ?_; intro w0 hown0 hgrow0))
 have hb0 : Below w.heap.size w w0 := (Below.refl _ _).grown hgrow0 (Nat.le_refl _) (by intro k hk; cases hk)
 have HO : Hid (Ow w0 w.heap.size (.slice (some ⟨w.heap.size, 0, none⟩) (xs.length + ys.length) (xs.length + ys.length)) (List.replicate (xs.length + ys.length) 0)) := Ow.made hown0
 clear hown0 hgrow0
 go_loopw [17] (fun i wr => ∃ (k : Nat) (Z : List Nat), k ≤ xs.length ∧ i = .int .i64 k ∧ Z.length = xs.length + ys.length ∧ val Z = val (xs.take k) * val ys ∧ (∀ p, k + ys.length ≤ p → p < xs.length + ys.length → Z[p]? = some 0) ∧
   Ow wr w.heap.size (.slice (some ⟨w.heap.size, 0, none⟩) (xs.length + ys.length) (xs.length + ys.length)) Z ∧ Below w.heap.size w wr) (fun i _ => xs.length - (intOf i).toNat)
 case atStart => exact ⟨0, List.replicate (xs.length + ys.length) 0, Nat.zero_le _, rfl, by simp, by simp [val, val_replicate_zero], fun p _ hp => by simp [hp], HO.out, hb0⟩
 case round =>
  obtain ⟨k, Z, hk, rfl, hZ, hval, hzero, hown, hbl⟩ := hrel
  have HV : Hid (val Z = val (xs.take k) * val ys) := hval
  have HZ : Hid (Z.length = xs.length + ys.length) := hZ
  have H0 : Hid (∀ p, k + ys.length ≤ p → p < xs.length + ys.length → Z[p]? = some 0) := hzero
  have HW : Hid (Ow wr w.heap.size (.slice (some ⟨w.heap.size, 0, none⟩) (xs.length + ys.length) (xs.length + ys.length)) Z) := hown
  clear hval hZ hzero hown HO hb0
  by_cases hlt : k < xs.length
  ·obtain ⟨ga, offa, x, rfl, hx1, hx2, hx3⟩ := HS.out.flat'.2 k hlt
   have HX : Hid (xs.take (k + 1) = xs.take k ++ [x]) := xDA hx1
   have HLX : Hid ((xs.take k).length = k) := by show _ = _; simp; omega
   have hga : ga < w.heap.size := yJ w _ hx3
   have HXC : Hid (w.cell? ⟨ga, offa + k, none⟩ = some (.int .u32 (x : Int))) := hx3
   clear hx1 hx3
   go_wp2
   go_loopw [7, 22] (fun c i wi => ∃ (j C : Nat) (Y : List Nat), j ≤ ys.length ∧ i = .int .i64 j ∧ c = .int .u64 C ∧ C < 4294967296 ∧ Y.length = xs.length + ys.length ∧
     val Y + 4294967296 ^ (k + j) * C = val (xs.take k) * val ys + 4294967296 ^ k * (x * val (ys.take j)) ∧ (∀ p, k + ys.length ≤ p → p < xs.length + ys.length → Y[p]? = some 0) ∧
     Ow wi w.heap.size (.slice (some ⟨w.heap.size, 0, none⟩) (xs.length + ys.length) (xs.length + ys.length)) Y ∧ Below w.heap.size w wi) (fun _ i _ => ys.length - (intOf i).toNat)
   case atStart => exact ⟨0, 0, Z, Nat.zero_le _, rfl, rfl, by omega, HZ.out, by simp [val, HV.out], H0.out, HW.out, hbl⟩
   case round =>
    obtain ⟨j, C, Y, hj, rfl, rfl, hC, hY, hyv, hyz, hyo, hyb⟩ := hrel
    have GV : Hid (val Y + 4294967296 ^ (k + j) * C = val (xs.take k) * val ys + 4294967296 ^ k * (x * val (ys.take j))) := hyv
    have GZ : Hid (Y.length = xs.length + ys.length) := hY
    have G0 : Hid (∀ p, k + ys.length ≤ p → p < xs.length + ys.length → Y[p]? = some 0) := hyz
    have GW : Hid (Ow wr w.heap.size (.slice (some ⟨w.heap.size, 0, none⟩) (xs.length + ys.length) (xs.length + ys.length)) Y) := hyo
    clear hyv hY hyz hyo
    by_cases hjl : j < ys.length
    ·obtain ⟨gb, offb, y, rfl, hy1, hy2, hy3⟩ := (HS'.out.later hyb).flat'.2 j hjl
     obtain ⟨z, hz⟩ := xBL (xs := Y) (k := k + j) (by rw [GZ.out]; omega)
     have hz32 : z < 4294967296 := GW.out.1.get hz
     obtain ⟨hcell, hfr⟩ := GW.out.at hz
     have hxc := (hyb.cell (p := ⟨ga, offa + k, none⟩) hga).trans HXC.out
     obtain ⟨hxyI, hxy0⟩ := mul_prod_leI hx2 hy2
     have KY : Hid (ys.take (j + 1) = ys.take j ++ [y]) := xDA hy1
     have KL : Hid ((ys.take j).length = j) := by show _ = _; simp; omega
     have KZ : Hid (Y[k + j]? = some z) := hz
     clear hy1 hz
     go_wp2
     go_quiet (fail)
     have hsum : ((C : Int) + ((x : Int) * y + z)) % 4294967296 = (((C + (x * y + z)) % 4294967296 : Nat) : Int) := by rw [Int.natCast_emod]; simp
     have hquo : ((C : Int) + ((x : Int) * y + z)) / 4294967296 = (((C + (x * y + z)) / 4294967296 : Nat) : Int) := by rw [Int.natCast_ediv]; simp
     have hp := (GW.out.drewN nq).put (below_drewN hyb nq) (Nat.le_refl _) GZ.out.symm (k := k + j) (z := (C + (x * y + z)) % 4294967296) hsum (by omega) rfl
     have HP : Hid (Ow ((wr.drewN nq).setCell ⟨w.heap.size, k + j, none⟩ (.int .u32 (((C : Int) + ((x : Int) * y + z)) % 4294967296))) w.heap.size (.slice (some ⟨w.heap.size, 0, none⟩) (xs.length + ys.length) (xs.length + ys.length)) (Y.set (k + j) ((C + (x * y + z)) % 4294967296)) ∧ Below w.heap.size w ((wr.drewN nq).setCell ⟨w.heap.size, k + j, none⟩ (.int .u32 (((C : Int) + ((x : Int) * y + z)) % 4294967296)))) := hp
     have HQ : Hid (((C : Int) + ((x : Int) * y + z)) / 4294967296 = (((C + (x * y + z)) / 4294967296 : Nat) : Int)) := hquo
     clear hp hquo hsum
     go_wp2
     go_roundw
     case rel =>
      refine ⟨j + 1, (C + (x * y + z)) / 4294967296, _, by omega, by go_num, by rw [HQ.out], ?_, by rw [yF]; exact GZ.out, ?_, ?_, HP.out.1, HP.out.2⟩
      ·have hxyN := mul_prod_le hx2 hy2
       omega
      ·rw [KY.out, xBU, KL.out]
       exact mul_step KZ.out GV.out
      intro p hp1 hp2
      rw [List.getElem?_set_ne (by omega)]
      exact G0.out p hp1 hp2
     case measure => simp [intOf]; omega
    have hjm : j = ys.length := by omega
    subst hjm
    have hz := G0.out (k + ys.length) (Nat.le_refl _) (by omega)
    obtain ⟨hcell, hfr⟩ := GW.out.at hz
    have hp := GW.out.put hyb (Nat.le_refl _) GZ.out.symm (k := k + ys.length) (z := C) (V := (C : Int)) rfl hC rfl
    have HP : Hid (Ow (wr.setCell ⟨w.heap.size, k + ys.length, none⟩ (.int .u32 (C : Int))) w.heap.size (.slice (some ⟨w.heap.size, 0, none⟩) (xs.length + ys.length) (xs.length + ys.length)) (Y.set (k + ys.length) C) ∧ Below w.heap.size w (wr.setCell ⟨w.heap.size, k + ys.length, none⟩ (.int .u32 (C : Int)))) := hp
    have KZ : Hid (Y[k + ys.length]? = some 0) := hz
    clear hp hz
    go_wp2
    go_roundw
    case rel =>
     refine ⟨k + 1, _, by omega, by go_num, by rw [yF]; exact GZ.out, ?_, ?_, HP.out.1, HP.out.2⟩
     ·have hv := GV.out
      rw [List.take_length] at hv
      exact mul_last KZ.out hv (by rw [HX.out, xBU, HLX.out])
     intro p hp1 hp2
     rw [List.getElem?_set_ne (by omega)]
     exact G0.out p (by omega) hp2
    case measure => simp [intOf]; omega
  have hk' : k = xs.length := by omega
  subst hk'
  go_wp2
  go_ret
  refine ⟨_, Z, rfl, HW.out, ?_, hbl⟩
  have := HV.out
  rw [List.take_length] at this
  exact this
theorem mul_any (v u : Value) (xs ys : List Nat) (w : World) (h : Sl w v xs) (h' : Sl w u ys) :
  Calls Tryz.prog 70 #[v, u] w fun e w' => ∃ v', e = .returned (.tuple #[v', .int .i64 (mulE xs ys)]) ∧ Ow w' w.heap.size v' (mulL xs ys) ∧ Below w.heap.size w w' := by
 go_enter Tryz.func70, Tryz.ntmps70
 go_wp2_with fail
 refine (xCB v xs _ h).mono ?_
 rintro e w1 ⟨rfl, rfl⟩
 cases hr : rightB xs
 ·go_wp2
  go_ret2
  exact ⟨_, ret2i (by simp [mulE, hr]), by simp [mulL, hr]; exact Ow.nil _ _, Below.refl _ _⟩
 go_wp2_with fail
 refine (xCB u ys _ h').mono ?_
 rintro e w1 ⟨rfl, rfl⟩
 cases hr' : rightB ys
 ·go_wp2
  go_ret2
  exact ⟨_, ret2i (by simp [mulE, hr']), by simp [mulL, hr']; exact Ow.nil _ _, Below.refl _ _⟩
 go_wp2_with fail
 refine (product_any v u xs ys _ h h' (xAV hr) (xAV hr')).mono ?_
 rintro e w2 ⟨v2, zs, rfl, ho, hv, hb⟩
 have HV : Hid (val zs = val xs * val ys) := hv
 clear hv
 go_wp2_with fail
 refine (inBounds_any v2 zs _ _ ho).mono ?_
 rintro e w3 ⟨v3, rfl, ho3, rfl⟩
 rw [HV.out] at ho3 ⊢
 go_wp2
 go_ret2
 exact ⟨_, ret2i (by simp [mulE, hr, hr']), by simp only [mulL, hr, hr', Bool.and_self, if_true]; exact ho3, hb⟩
def prodIn (m : Mn) : LkY → List Mn → LkY × Int
 | L, [] => (L, 0)
 | L, n :: r =>
  if raisedE (keyX m.2) n.2 = 0 then
   if mulE m.1 n.1 = 0 then
    if putE L (raisedK (keyX m.2) n.2) (mulL m.1 n.1) = 0 then prodIn m (putL L (raisedK (keyX m.2) n.2) (mulL m.1 n.1)) r
    else (putL L (raisedK (keyX m.2) n.2) (mulL m.1 n.1), putE L (raisedK (keyX m.2) n.2) (mulL m.1 n.1))
   else (L, mulE m.1 n.1)
  else (L, raisedE (keyX m.2) n.2)
def prods (q : List Mn) : LkY → List Mn → LkY × Int
 | L, [] => (L, 0)
 | L, m :: r => if (prodIn m L q).2 = 0 then prods q (prodIn m L q).1 r else prodIn m L q
def prodE (p q : List Mn) : Int := (prods q [] p).2
def prodL (p q : List Mn) : List Mn := if prodE p q = 0 then rowLY (prods q [] p).1 else []
theorem keyX_le {es : List Int} (h : Small es) : ∀ (j x : Nat), (keyX es)[j]? = some x → x ≤ 64 := by
 intro j x hx
 by_cases hj : j < es.length
 ·obtain ⟨y, hy⟩ : ∃ y, es[j]? = some y := ⟨es[j], zC hj⟩
  rw [keyX_get hy] at hx
  cases hx
  have := h.2 j y hy
  omega
 have hl := xBB h.1
 have := (zB.1 hx).1
 rw [keyX_high (by omega) (by omega)] at hx
 cases hx
 omega
theorem wfK_raised {ks : List Nat} {es : List Int} (hk : ks.length = 512) (hs : Small es) (h0 : raisedE ks es = 0) : WfK (raisedK ks es) := by
 have ha : (addK ks (keyX es)).all (fun n => decide (n ≤ 64)) = true := by
  unfold raisedE at h0
  split at h0
  ·assumption
  omega
 unfold raisedK
 rw [if_pos ha]
 have hl := xBB hs.1
 refine ⟨by simp [addK, hk, hl], fun j x hx => ?_⟩
 rw [List.all_eq_true] at ha
 have := ha x (zD hx)
 simp at this
 omega
theorem len_raised {ks : List Nat} {es : List Int} (hk : ks.length = 512) (hs : Small es) : (raisedK ks es).length = 512 := by
 unfold raisedK
 have hl := xBB hs.1
 split
 ·simp [addK, hk, hl]
 exact xEY
theorem pprod_any (v u : Value) (p q : List Mn) (w : World) (h : Ms w v p) (h' : Ms w u q) (hs : ∀ (k : Nat) (m : Mn), p[k]? = some m → Small m.2) (hs' : ∀ (k : Nat) (m : Mn), q[k]? = some m → Small m.2) :
  Calls Tryz.prog 65 #[v, u] w fun e w' => ∃ v', e = .returned (.tuple #[v', .int .i64 (prodE p q)]) ∧ OM w' w.heap.size v' (prodL p q) ∧ Below w.heap.size w w' := by
 obtain ⟨ao, cap, rfl, hao, hca, q0⟩ := Row.flat h
 obtain ⟨bo, cap', rfl, hbo, hcb, q0'⟩ := Row.flat h'
 unfold maxLen at hca hcb
 have hmm := @run_makeMap Tryz.prog
 have H0 : Hid (MapOk (w.alloc (.map #[] 0)) w.heap.size w.heap.size []) := MapOk.made w _
 have HP : Hid (Ms w (.slice ao p.length cap) p) := h
 have HQ : Hid (Ms w (.slice bo q.length cap') q) := h'
 have HS : Hid (∀ (k : Nat) (m : Mn), p[k]? = some m → Small m.2) := hs
 have HS' : Hid (∀ (k : Nat) (m : Mn), q[k]? = some m → Small m.2) := hs'
 have hzs2 : Tryz.zeroCells160.size = 512 := Tryz.zeroCells160_size
 clear h h' hs hs' q0 q0'
 go_enter Tryz.func65, Tryz.ntmps65
 go_wp2
 clear hmm
 go_loopw [18] (fun i wr => ∃ (k : Nat) (M : LkY), k ≤ p.length ∧ i = .int .i64 k ∧ prods q [] p = prods q M (p.drop k) ∧ M.length ≤ 256 ∧ MapOk wr w.heap.size w.heap.size M ∧ Below w.heap.size w wr) (fun i _ => p.length - (intOf i).toNat)
 case atStart => exact ⟨0, [], by omega, rfl, rfl, by simp, H0.out, zA _⟩
 case round =>
  obtain ⟨k, M0, hk, rfl, hpu, hM6, hmo, hbl⟩ := hrel
  have HPr : Hid (prods q [] p = prods q M0 (p.drop k)) := hpu
  have HMo : Hid (MapOk wr w.heap.size w.heap.size M0) := hmo
  have HBl : Hid (Below w.heap.size w wr) := hbl
  clear hpu hmo hbl H0
  by_cases hlt : k < p.length
  ·obtain ⟨g, off, c, es, a1, c1, a2, c2, rfl, hm1, hc0, hc1, hmm, hl1, hl2, hl3, hl4⟩ := (HP.out.kp (zK HBl.out)).at hlt
   have HX : Hid (p[k]? = some (c, es)) := hm1
   have HSm : Hid (Small es) := HS.out k _ hm1
   have hbx := zA (w := wr) (.cells #[.slice a1 c.length c1, .slice a2 es.length c2] 37)
   have HMm : Hid (Mo (wr.alloc (.cells #[.slice a1 c.length c1, .slice a2 es.length c2] 37)) (.slice a1 c.length c1) (.slice a2 es.length c2) (c, es)) := hmm.kp (zK hbx)
   clear hm1 hmm hbx
   go_wp2_with fail
   refine (packed_any _ es _ HMm.out.2 HSm.out).mono ?_
   rintro e w1 ⟨rfl, hb1⟩
   obtain ⟨hd0, hd1, hb01⟩ := box2Y hb1
   have hk512 := xBB HSm.out.1
   have hbin : Below w1.heap.size w1 ((w1.alloc (.cells Tryz.zeroCells160 160)).setRow w1.heap.size (arr (keyX es))) := xBM (zA _) (Nat.le_refl _)
   go_wp2_with (first
    | (refine wpList_store_row rfl _ _ _ rfl w1.heap.size (arr (keyX es)) rfl rfl _ _ (yU w1 _) (by rw [xAZ, xAN, hk512]) (by rw [xAN, hk512, hzs2]) (arr_one _) ?_))
   obtain ⟨wi, hwi⟩ : ∃ wi, wi = (w1.alloc (.cells Tryz.zeroCells160 160)).setRow w1.heap.size (arr (keyX es)) := ⟨_, rfl⟩
   have HAi : Hid (Ar wi w1.heap.size (keyX es)) := by rw [hwi]; exact setRow_heap _ _ _ _ _ _ (yU w1 _)
   rw [← hwi] at hbin ⊢
   clear hwi
   have hbi : Below wr.heap.size wr wi := zS hb01 hbin
   have HBi : Hid (Below w.heap.size w wi) := zS HBl.out hbi
   have HMi : Hid (MapOk wi w.heap.size w.heap.size M0) := HMo.out.later hbi
   have hi0 := (zK hbin).cell _ _ hd0
   have HSl : Hid (Sl wi (.slice a1 c.length c1) c) := (HMm.out.1.kp (zK hb1)).kp (zK hbin)
   obtain ⟨esm, clm, hmapi⟩ := HMi.out.isMap
   have HMapi : Hid (wi.heap[w.heap.size]? = some (.map esm clm)) := hmapi
   have hbne : w1.heap.size ≠ w.heap.size := by have := HMo.out.lt; have := hb01.size; omega
   clear hb1 hd0 hd1 hb01 hbin hbi hmapi
   go_wp2
   obtain ⟨G8, hG8⟩ : ∃ G8, G8 = wr.heap.size := ⟨_, rfl⟩
   rw [← hG8] at hi0 ⊢
   clear hG8
   have HFin : Hid (∀ E : Int, ¬ E = 0 → (prodIn (c, es) M0 q).2 = E → prodE p q = E ∧ prodL p q = []) := by
    intro E hE0 hE
    have h1 : prodE p q = E := by
     unfold prodE
     rw [HPr.out, xAK HX.out, prods, if_neg (by rw [hE]; exact hE0), hE]
    exact ⟨h1, by unfold prodL; rw [h1, if_neg hE0]⟩
   go_loopw [27] (fun i ws => ∃ (l : Nat) (M : LkY), l ≤ q.length ∧ i = .int .i64 l ∧ prodIn (c, es) M0 q = prodIn (c, es) M (q.drop l) ∧ M.length ≤ 256 ∧ MapOk ws w.heap.size w.heap.size M ∧ wi.grownBy ws (some w.heap.size)) (fun i _ => q.length - (intOf i).toNat)
   case atStart => exact ⟨0, M0, by omega, rfl, rfl, hM6, HMi.out, World.grownBy.refl _ _⟩
   case round =>
    obtain ⟨l, M, hl, rfl, hpi, hM, hmo, hgr⟩ := hrel
    have HPi : Hid (prodIn (c, es) M0 q = prodIn (c, es) M (q.drop l)) := hpi
    have HMs : Hid (MapOk wr w.heap.size w.heap.size M) := hmo
    have HGr : Hid (wi.grownBy wr (some w.heap.size)) := hgr
    have HKp : Hid (Kp wi wr) := Kp.of_map hgr HMapi.out
    have HAr : Hid (Ar wr w1.heap.size (keyX es)) := (hgr.block _ HAi.out.lt (by simpa using hbne)).trans HAi.out
    have HBr : Hid (Below w.heap.size w wr) := HBi.out.grown hgr HBi.out.size (fun k hk => by cases hk; exact Nat.le_refl _)
    clear hpi hmo hgr
    by_cases hll : l < q.length
    ·obtain ⟨g', off', d, fs, b1, d1, b2, d2, rfl, hn1, he0, he1, hmn, hj1, hj2, hj3, hj4⟩ := (HQ.out.kp (zK HBr.out)).at hll
     have HY : Hid (q[l]? = some (d, fs)) := hn1
     have HSn : Hid (Small fs) := HS'.out l _ hn1
     have hba := zA (w := wr) (.cells #[.slice b1 d.length d1, .slice b2 fs.length d2] 37)
     have HMn : Hid (Mo (wr.alloc (.cells #[.slice b1 d.length d1, .slice b2 fs.length d2] 37)) (.slice b1 d.length d1) (.slice b2 fs.length d2) (d, fs)) := hmn.kp (zK hba)
     have HAa : Hid (Ar (wr.alloc (.cells #[.slice b1 d.length d1, .slice b2 fs.length d2] 37)) w1.heap.size (keyX es)) := HAr.out.later hba
     clear hn1 hmn hba
     go_wp2_with (first
      | (refine wpList_load_row rfl _ _ rfl w1.heap.size rfl _ _ _ _ HAa.out xAU rfl (by rw [xAZ, xAN, hk512]) ?_))
     refine (raised_any _ (keyX es) fs _ HMn.out.2 HSn.out hk512 (keyX_le HSm.out)).mono ?_
     rintro e w2 ⟨rfl, hb2⟩
     obtain ⟨hf0, hf1, hb02⟩ := box2Y hb2
     have hr512 := len_raised hk512 HSn.out
     obtain ⟨K1, hK1⟩ : ∃ K1, K1 = raisedK (keyX es) fs := ⟨_, rfl⟩
     obtain ⟨E1, hE1⟩ : ∃ E1, E1 = raisedE (keyX es) fs := ⟨_, rfl⟩
     rw [← hK1] at hr512 ⊢
     rw [← hE1]
     have HK1 : Hid (K1 = raisedK (keyX es) fs) := hK1
     have HE1 : Hid (E1 = raisedE (keyX es) fs) := hE1
     clear hK1 hE1
     have hb3 : Below w2.heap.size w2 ((w2.alloc (.cells Tryz.zeroCells160 160)).setRow w2.heap.size (arr K1)) := xBM (zA _) (Nat.le_refl _)
     have hb03 := zS hb02 hb3
     have HB3 : Hid (Below wr.heap.size wr ((w2.alloc (.cells Tryz.zeroCells160 160)).setRow w2.heap.size (arr K1))) := hb03
     by_cases h1 : E1 = 0
     ·subst h1
      have hx8 := (zK hb03).cell _ _ (HKp.out.cell _ _ hi0)
      have hx11 := (zK hb3).cell _ _ hf0
      have HS1 : Hid (Sl ((w2.alloc (.cells Tryz.zeroCells160 160)).setRow w2.heap.size (arr K1)) (.slice a1 c.length c1) c) := (HSl.out.kp HKp.out).kp (zK hb03)
      have HS2 : Hid (Sl ((w2.alloc (.cells Tryz.zeroCells160 160)).setRow w2.heap.size (arr K1)) (.slice b1 d.length d1) d) := (HMn.out.1.kp (zK hb2)).kp (zK hb3)
      have HA3 : Hid (Ar ((w2.alloc (.cells Tryz.zeroCells160 160)).setRow w2.heap.size (arr K1)) w2.heap.size K1) := setRow_heap _ _ _ _ _ _ (yU w2 _)
      clear hb2 hf0 hf1 hb02 hb3 hb03 he0 he1
      go_wp2_with (first
       | (refine wpList_store_row rfl _ _ _ rfl w2.heap.size (arr K1) rfl rfl _ _ (yU w2 _) (by rw [xAZ, xAN, hr512]) (by rw [xAN, hr512, hzs2]) (arr_one _) ?_))
      refine (mul_any _ _ c d _ HS1.out HS2.out).mono ?_
      rintro e w4 ⟨v4, rfl, ho4, hb4⟩
      have HS4 : Hid (Sl w4 v4 (mulL c d)) := ho4.sl
      have HA4 : Hid (Ar w4 w2.heap.size K1) := HA3.out.later hb4
      have hb04 := zS HB3.out hb4
      have HM4 : Hid (MapOk w4 w.heap.size w.heap.size M) := HMs.out.later hb04
      have HB4 : Hid (Below wr.heap.size wr w4) := hb04
      obtain ⟨E2, hE2⟩ : ∃ E2, E2 = mulE c d := ⟨_, rfl⟩
      rw [← hE2]
      have HE2 : Hid (E2 = mulE c d) := hE2
      clear hE2 ho4 hb4 hb04 hx8 hx11 HS1 HS2 HA3
      by_cases h2 : E2 = 0
      ·subst h2
       go_wp2_with (first
        | (refine wpList_load_row rfl _ _ rfl w2.heap.size rfl _ _ _ _ HA4.out xAU rfl (by rw [xAZ, xAN, hr512]) ?_))
       refine (put_any w.heap.size w.heap.size M K1 (mulL c d) v4 _ HM4.out (by rw [HK1.out]; exact wfK_raised hk512 HSn.out HE1.out.symm) HS4.out hM (Nat.le_trans HBr.out.size HB4.out.size)).mono ?_
       rintro e w5 ⟨rfl, hm5, hg5⟩
       have HM5 : Hid (MapOk w5 w.heap.size w.heap.size (putL M K1 (mulL c d))) := hm5
       have HG5 : Hid (wi.grownBy w5 (some w.heap.size)) := xBG (xBG HGr.out (xAA HB4.out _)) hg5
       obtain ⟨E3, hE3⟩ : ∃ E3, E3 = putE M K1 (mulL c d) := ⟨_, rfl⟩
       rw [← hE3]
       have HE3 : Hid (E3 = putE M K1 (mulL c d)) := hE3
       clear hE3 hm5 hg5
       by_cases h3 : E3 = 0
       ·subst h3
        go_wp2
        go_roundw
        case rel =>
         refine ⟨l + 1, putL M K1 (mulL c d), by omega, by go_num, ?_, len_putL HE3.out.symm hM, HM5.out, HG5.out⟩
         rw [HPi.out, xAK HY.out, prodIn, if_pos HE1.out.symm, if_pos HE2.out.symm]
         rw [← HK1.out, if_pos HE3.out.symm]
        case measure => simp [intOf]; omega
       have hb0 : (E3 != 0) = true := by rw [bne_iff_ne]; exact h3
       have hfin := HFin.out E3 h3 (by rw [HPi.out, xAK HY.out, prodIn, if_pos HE1.out.symm, if_pos HE2.out.symm]; rw [← HK1.out, if_neg (by rw [← HE3.out]; exact h3), ← HE3.out])
       have HFi : Hid (prodE p q = E3 ∧ prodL p q = []) := hfin
       have HB5 : Hid (Below w.heap.size w w5) := HBi.out.grown HG5.out HBi.out.size (fun k hk => by cases hk; exact Nat.le_refl _)
       clear hfin
       go_wp2
       go_ret2
       exact ⟨_, ret2i HFi.out.1.symm, by rw [HFi.out.2]; exact OM.nil _ _, HB5.out⟩
      have hb0 : (E2 != 0) = true := by rw [bne_iff_ne]; exact h2
      have hb1 : (E2 == 0) = false := by rw [zY]; exact h2
      have hfin := HFin.out E2 h2 (by rw [HPi.out, xAK HY.out, prodIn, if_pos HE1.out.symm, if_neg (by show ¬ mulE c d = 0; rw [← HE2.out]; exact h2)]; exact HE2.out.symm)
      have HFi : Hid (prodE p q = E2 ∧ prodL p q = []) := hfin
      have HB5 : Hid (Below w.heap.size w w4) := zS HBr.out HB4.out
      clear hfin
      go_wp2
      go_ret2
      exact ⟨_, ret2i HFi.out.1.symm, by rw [HFi.out.2]; exact OM.nil _ _, HB5.out⟩
     have hb0 : (E1 != 0) = true := by rw [bne_iff_ne]; exact h1
     have hfin := HFin.out E1 h1 (by rw [HPi.out, xAK HY.out, prodIn, if_neg (by show ¬ raisedE (keyX es) fs = 0; rw [← HE1.out]; exact h1)]; exact HE1.out.symm)
     have HFi : Hid (prodE p q = E1 ∧ prodL p q = []) := hfin
     have HB5 : Hid (Below w.heap.size w ((w2.alloc (.cells Tryz.zeroCells160 160)).setRow w2.heap.size (arr K1))) := zS HBr.out HB3.out
     clear hfin hb2 hf0 hf1 hb02 hb3 hb03 he0 he1
     go_wp2_with (first
      | (refine wpList_store_row rfl _ _ _ rfl w2.heap.size (arr K1) rfl rfl _ _ (yU w2 _) (by rw [xAZ, xAN, hr512]) (by rw [xAN, hr512, hzs2]) (arr_one _) ?_))
     go_ret2
     exact ⟨_, ret2i HFi.out.1.symm, by rw [HFi.out.2]; exact OM.nil _ _, HB5.out⟩
    have hle : l = q.length := by omega
    subst hle
    have hpr : prodIn (c, es) M0 q = (M, 0) := by rw [HPi.out, zP (Nat.le_refl _)]; rfl
    have HPq : Hid (prodIn (c, es) M0 q = (M, 0)) := hpr
    clear hpr
    go_wp2
    go_roundw
    case rel =>
     refine ⟨k + 1, M, by omega, by go_num, ?_, hM, HMs.out, HBr.out⟩
     rw [HPr.out, xAK HX.out, prods, HPq.out, if_pos rfl]
    case measure => simp [intOf]; omega
  have hke : k = p.length := by omega
  subst hke
  have HF : Hid (prods q [] p = (M0, 0)) := by
   show prods q [] p = _
   rw [HPr.out, zP (Nat.le_refl _)]; rfl
  go_wp2_with fail
  refine (row_any w.heap.size w.heap.size M0 _ HMo.out (by omega) HBl.out.size).mono ?_
  rintro e w3 ⟨v3, rfl, ho3, hb3⟩
  have hs0 : prodE p q = 0 := by unfold prodE; rw [HF.out]
  have HS0 : Hid (prodE p q = 0) := hs0
  have HO3 : Hid (OM w3 w.heap.size v3 (prodL p q)) := by
   show OM _ _ _ _
   unfold prodL
   rw [if_pos hs0, HF.out]
   exact ho3
  have HB3 : Hid (Below w.heap.size w w3) := zS HBl.out hb3
  clear ho3 hb3 hs0
  go_wp2
  go_ret2
  exact ⟨_, ret2i HS0.out.symm, HO3.out, HB3.out⟩
theorem order_any (v u : Value) (xs ys : List Nat) (w : World) (h : Sl w v xs) (h' : Sl w u ys) (hn : limbs (val xs) = xs) (hn' : limbs (val ys) = ys) :
  Calls Tryz.prog 83 #[v, u] w fun e w' => e = .returned (.int .i64 (cmpI (val xs) (val ys))) ∧ ∃ n, w' = w.drewN n := by
 obtain ⟨ao, cap, rfl, hao, hca, hcl⟩ := h.flat
 obtain ⟨bo, cap', rfl, hbo, hcb, hcl'⟩ := h'.flat
 unfold maxLen at hca hcb
 have HL : Hid (Lim xs) := h.1
 have HL' : Hid (Lim ys) := h'.1
 have HN : Hid (limbs (val xs) = xs) := hn
 have HN' : Hid (limbs (val ys) = ys) := hn'
 clear h h' hn hn'
 by_cases hl1 : xs.length < ys.length
 ·go_enter Tryz.func83, Tryz.ntmps83
  go_wp2
  go_ret
  exact ⟨ret1i (cmpI_lt (xEL HN.out HN'.out hl1)).symm, 0, rfl⟩
 by_cases hl2 : ys.length < xs.length
 ·go_enter Tryz.func83, Tryz.ntmps83
  go_wp2
  go_ret
  exact ⟨ret1i (cmpI_gt (xEL HN'.out HN.out hl2)).symm, 0, rfl⟩
 go_enter Tryz.func83, Tryz.ntmps83
 go_wp2
 go_loopw [5] (fun i wr => ∃ k : Nat, k ≤ xs.length ∧ i = .int .i64 ((k : Int) - 1) ∧ xs.drop k = ys.drop k ∧ ∃ n, wr = w.drewN n) (fun i _ => (intOf i + 1).toNat)
 case atStart => exact ⟨xs.length, Nat.le_refl _, rfl, by rw [zP (Nat.le_refl _), zP (by omega)], 0, rfl⟩
 case round =>
  obtain ⟨k, hk, rfl, ht, n, rfl⟩ := hrel
  have HT : Hid (xs.drop k = ys.drop k) := ht
  clear ht
  by_cases hk0 : k = 0
  ·subst hk0
   go_wp2
   go_ret
   have := HT.out
   simp only [List.drop_zero] at this
   subst this
   exact ⟨ret1i (cmpI_eq _).symm, n, rfl⟩
  obtain ⟨j, rfl⟩ : ∃ j, k = j + 1 := ⟨k - 1, by omega⟩
  rw [show ((j + 1 : Nat) : Int) - 1 = (j : Int) by omega]
  obtain ⟨g, off, x, rfl, hx1, hx2, hx3⟩ := hcl j (by omega)
  obtain ⟨g', off', y, rfl, hy1, hy2, hy3⟩ := hcl' j (by omega)
  have HX : Hid (xs[j]? = some x) := hx1
  have HY : Hid (ys[j]? = some y) := hy1
  have hlt : j < xs.length := by omega
  have hlt' : j < ys.length := by omega
  clear hx1 hy1 hcl hcl'
  by_cases h1 : x < y
  ·go_wp2
   go_quiet (fail)
   go_wp2
   go_ret
   exact ⟨ret1i (cmpI_lt (val_lt_at HL.out HX.out HY.out HT.out h1)).symm, _, World.drewN_drewN _ _ _⟩
  by_cases h2 : y < x
  ·go_wp2
   go_quiet (fail)
   go_wp2
   go_quiet (fail)
   go_wp2
   go_ret
   exact ⟨ret1i (cmpI_gt (val_lt_at HL'.out HY.out HX.out HT.out.symm h2)).symm, _, by simp only [World.drewN_drewN]; rfl⟩
  have hxy : x = y := by omega
  subst hxy
  go_wp2
  go_quiet (fail)
  go_wp2
  go_quiet (fail)
  go_wp2
  go_roundw
  case rel => exact ⟨j, by omega, rfl, by rw [xFL HX.out, xFL HY.out, HT.out], _, rfl⟩
  case measure => simp [intOf]
theorem cmp_any (v u : Value) (xs ys : List Nat) (w : World) (h : Sl w v xs) (h' : Sl w u ys) :
  Calls Tryz.prog 35 #[v, u] w fun e w' => e = .returned (.tuple #[.int .i64 (cmpV xs ys), .int .i64 (cmpE xs ys)]) ∧ ∃ n, w' = w.drewN n := by
 go_enter Tryz.func35, Tryz.ntmps35
 go_wp2_with fail
 refine (xCB v xs _ h).mono ?_
 rintro e w1 ⟨rfl, rfl⟩
 cases hr : rightB xs
 ·go_wp2
  go_ret2
  exact ⟨by simp [cmpV, cmpE, hr], 0, rfl⟩
 go_wp2_with fail
 refine (xCB u ys _ h').mono ?_
 rintro e w1 ⟨rfl, rfl⟩
 cases hr' : rightB ys
 ·go_wp2
  go_ret2
  exact ⟨by simp [cmpV, cmpE, hr'], 0, rfl⟩
 go_wp2_with fail
 refine (order_any v u xs ys _ h h' (xBE h.1 hr) (xBE h'.1 hr')).mono ?_
 rintro e w1 ⟨rfl, n, rfl⟩
 go_wp2
 go_ret2
 exact ⟨by simp [cmpV, cmpE, hr, hr'], n, rfl⟩
end Go.Proofs.YtdjmjhlbjcgoiaaGreatDoor
