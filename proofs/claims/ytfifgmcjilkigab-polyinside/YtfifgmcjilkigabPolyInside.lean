/- Proved: for every row of monomials, every row of rows of monomials and every row of rows of limbs, the law PolyInside answers true (what is laid into a polynomial is worth what it is), and its arguments read afterwards as before. No condition. -/
import Derived.Test.YtfifgmcjilkigabPShown
import Derived.Test.YtfifgmcjilkigabPIns
import Derived.Test.YtfifgmcjilkigabPFrame
namespace Go.Proofs.Ytfifgmcjilkigab
open Go.ChangeShapes Go.WideShapes Go.ChangeAt Go.RowKit Go.Maps

theorem Ms.lim {w : World} {v : Value} {p : List Mn} (h : Ms w v p) : ∀ m ∈ p, Lim m.1 := by
  intro m hm
  obtain ⟨k, hk⟩ := List.mem_iff_getElem?.1 hm
  obtain ⟨ao, cap, rfl, _, _, hx⟩ := Row.flat h
  obtain ⟨g, off, x, _, hk2, cv, ev, _, _, hmo⟩ := hx k (List.getElem?_eq_some_iff.1 hk).1
  rw [hk] at hk2
  cases hk2
  exact hmo.1.1

theorem Rs.lim {w : World} {v : Value} {fs : List (List Nat)} (h : Rs w v fs) : ∀ f ∈ fs, Lim f := by
  intro m hm
  obtain ⟨k, hk⟩ := List.mem_iff_getElem?.1 hm
  obtain ⟨ao, cap, rfl, _, _, hx⟩ := Row.flat h
  obtain ⟨g, off, x, _, hk2, u, _, hmo⟩ := hx k (List.getElem?_eq_some_iff.1 hk).1
  rw [hk] at hk2
  cases hk2
  exact hmo.1

theorem Ps.lim {w : World} {v : Value} {ps : List (List Mn)} (h : Ps w v ps) : ∀ a ∈ ps, ∀ m ∈ a, Lim m.1 := by
  intro m hm
  obtain ⟨k, hk⟩ := List.mem_iff_getElem?.1 hm
  obtain ⟨ao, cap, rfl, _, _, hx⟩ := Row.flat h
  obtain ⟨g, off, x, _, hk2, u, _, hmo⟩ := hx k (List.getElem?_eq_some_iff.1 hk).1
  rw [hk] at hk2
  cases hk2
  exact hmo.lim

theorem info_row : (Try.prog.info? 25).map (fun i => (i.zero, i.size, i.bytes)) = some (some (.slice none 0 0), 1, 24) := by kernel_rfl
theorem under_rows : Try.prog.underlying 23 = some (.slice 25) := by kernel_rfl

theorem own_blk {w : World} {base : Nat} {e : TypeId} {s m j : Nat} {v : Value} {xs : List Value} (h : w.ownsRow base e s v m xs) (hj : v.ownBlock = some j) : base ≤ j := by
  rcases h.2 with ⟨rfl, _⟩ | ⟨g', cap, cur, rfl, hb, _⟩
  · cases hj
  · cases hj
    exact hb

/-- A row of rows of limbs that the call owns. -/
def OwR (w : World) (base : Nat) (v : Value) (xs : List (List Nat)) : Prop :=
  ∃ cs : List Value, cs.length = xs.length ∧ (∀ (i : Nat) (c : Value) (x : List Nat), cs[i]? = some c → xs[i]? = some x → Ow w base c x) ∧ w.ownsRow base 25 1 v xs.length cs

theorem OwR.empty {w : World} {base : Nat} (hb : base ≤ w.heap.size) : OwR (w.alloc (.cells #[] 25)) base (.slice (some ⟨w.heap.size, 0, none⟩) 0 0) [] :=
  ⟨[], rfl, fun i c x h => (by simp at h), rfl, .inr ⟨w.heap.size, 0, #[], rfl, hb, heap_alloc_new _ _, Nat.le_refl _, Nat.zero_le _, rfl, rfl⟩⟩

theorem OwR.rs {w : World} {base : Nat} {v : Value} {xs : List (List Nat)} (h : OwR w base v xs) : Rs w v xs := by
  obtain ⟨cs, hl, hc, ho⟩ := h
  have ho2 := ho
  rcases ho2.2 with ⟨rfl, hn⟩ | ⟨g, cap, cur, rfl, hb, hg, hcap, hm, hs, ht⟩
  · exact ⟨none, 0, by rw [hn], by omega, by simp [maxLen], by omega⟩
  · refine ⟨_, cap, rfl, hcap, hm, fun _ => ⟨g, 0, rfl, (Array.getElem?_eq_some_iff.1 hg).1, ?_⟩⟩
    intro k x hk
    have hlt : k < xs.length := (List.getElem?_eq_some_iff.1 hk).1
    have hck : cs[k]? = some cs[k] := List.getElem?_eq_getElem (by omega)
    refine ⟨cs[k], ?_, (hc k _ x hck hk).sl⟩
    rw [Nat.zero_add, Nat.mul_one, World.ownsRow.cellAt ho2 k (by omega)]
    simp [hck]

theorem OwR.snoc {w w' : World} {base : Nat} {v v' : Value} {xs : List (List Nat)} {x : List Nat} {cs : List Value} {cv : Value} (hl : cs.length = xs.length) (hc : ∀ (i : Nat) (c : Value) (x : List Nat), cs[i]? = some c → xs[i]? = some x → Ow w base c x)
    (ho : w.ownsRow base 25 1 v xs.length cs) (h1 : Ow w base cv x) (ho' : w'.ownsRow base 25 1 v' (xs.length + 1) (cs ++ [cv])) (hg : w.grownBy w' v.ownBlock) : OwR w' base v' (xs ++ [x]) := by
  refine ⟨cs ++ [cv], by simp [hl], fun i c q hi hq => ?_, by simpa using ho'⟩
  have k1 : ∀ {u : Value} {ys : List Nat}, Ow w base u ys → Ow w' base u ys := fun h => h.held hg (ownsRow_apart h.2 ho (by decide))
  by_cases hi2 : i < cs.length
  · rw [List.getElem?_append_left hi2] at hi
    rw [List.getElem?_append_left (by omega)] at hq
    exact k1 (hc i c q hi hq)
  · have hlen := (List.getElem?_eq_some_iff.1 hi).1
    have : i = cs.length := by simp at hlen; omega
    subst this
    rw [List.getElem?_append_right (Nat.le_refl _), Nat.sub_self] at hi
    rw [List.getElem?_append_right (by omega), hl, Nat.sub_self] at hq
    simp at hi hq
    subst hi; subst hq
    exact k1 h1

theorem value_inside {p : List Mn} {args : List (List Mn)} {ats : List (List Nat)} (hl : ∀ m ∈ p, Lim m.1) (hla : ∀ a ∈ args, ∀ m ∈ a, Lim m.1) (hlc : ∀ m ∈ compL p args, Lim m.1) (hf : ∀ f ∈ ats, Lim f)
    (hc : compE p args = 0) (hva : ∀ a ∈ args, valE a ats = 0) (h1 : valE (compL p args) ats = 0) (h2 : valE p (args.map fun a => valL a ats) = 0) : valL (compL p args) ats = valL p (args.map fun a => valL a ats) := by
  have hfv : ∀ f ∈ args.map fun a => valL a ats, Lim f := by
    intro f hff
    obtain ⟨a, ha, rfl⟩ := List.mem_map.1 hff
    rw [(valL_spec (hla a ha) hf (hva a ha)).1]
    exact limbs_lim _
  have R1 := valL_spec hlc hf h1
  have R2 := valL_spec hl hfv h2
  have hcc := hc
  unfold compE at hcc
  split at hcc
  · rename_i c1
    split at hcc
    · rename_i c2
      split at hcc
      · have hmap : (args.map fun a => valL a ats).map val = args.map (worthN ats) := by
          rw [List.map_map]
          exact List.map_congr_left fun a ha => (valL_spec (hla a ha) hf (hva a ha)).val
        have e : worthN ats (compL p args) = worthN (args.map fun a => valL a ats) p := by
          unfold compL
          rw [if_pos hc, worthN_row, compGo_worth ats domM_prod (checkAll_mem c2) hmap (small_of_check (checkAll1 c1)) rising_nil hcc]
          simp [worthK]
        rw [e] at R1
        exact R1.inj R2
      · simp at hcc
    · rename_i c2; exact absurd hcc c2
  · rename_i c1; exact absurd hcc c1

set_option maxRecDepth 100000 in
set_option maxHeartbeats 6400000 in
theorem polyInside_any (v av bv : Value) (p : List Mn) (args : List (List Mn)) (ats : List (List Nat)) (w : World) (h : Ms w v p) (h' : Ps w av args) (ha : Rs w bv ats) (hfit : args.length * 24 ≤ 140737488351232) :
    Calls Try.prog 4 #[v, av, bv] w fun e w' => e = .returned (.bool true) ∧ Below w.heap.size w w' := by
  have HL : Hid (∀ m ∈ p, Lim m.1) := h.lim
  have HLa : Hid (∀ a ∈ args, ∀ m ∈ a, Lim m.1) := h'.lim
  have HF : Hid (∀ f ∈ ats, Lim f) := ha.lim
  obtain ⟨i0, hi, hz0, hz1, hz2⟩ := info_parts info_row
  obtain ⟨ao, cap, rfl, hao, hca, q0⟩ := Row.flat h'
  unfold maxLen at hca
  have HP : Hid (Ms w v p) := h
  have HQ : Hid (Ps w (.slice ao args.length cap) args) := h'
  have HA : Hid (Rs w bv ats) := ha
  have HB : Hid (Below w.heap.size w w) := Below.refl _ _
  clear h h' ha q0
  go_enter Try.func4, Try.ntmps4
  go_wp2_with fail
  refine (shown_any _).mono ?_
  rintro e w1 ⟨rfl, hb⟩
  have K := Kp.of_below hb
  have B := hb
  clear hb
  have HBn : Hid (Below w.heap.size w w1) := below_step HB.out B
  clear HB B
  have HB := HBn
  clear HBn
  have HPn : Hid (Ms w1 v p) := HP.out.kp K
  clear HP
  have HP := HPn
  clear HPn
  have HQn : Hid (Ps w1 (.slice ao args.length cap) args) := HQ.out.kp K
  clear HQ
  have HQ := HQn
  clear HQn
  have HAn : Hid (Rs w1 bv ats) := HA.out.kp K
  clear HA
  have HA := HAn
  clear HAn
  clear K
  go_wp2_with fail
  refine (compose_any _ _ p args _ HP.out HQ.out).mono ?_
  rintro e w2 ⟨vc, rfl, oc, hb⟩
  have K := Kp.of_below hb
  have B := hb
  clear hb
  have HBn : Hid (Below w.heap.size w w2) := below_step HB.out B
  clear HB B
  have HB := HBn
  clear HBn
  have HPn : Hid (Ms w2 v p) := HP.out.kp K
  clear HP
  have HP := HPn
  clear HPn
  have HQn : Hid (Ps w2 (.slice ao args.length cap) args) := HQ.out.kp K
  clear HQ
  have HQ := HQn
  clear HQn
  have HAn : Hid (Rs w2 bv ats) := HA.out.kp K
  clear HA
  have HA := HAn
  clear HAn
  clear K
  have HC : Hid (Ms w2 vc (compL p args)) := oc.ms
  clear oc
  obtain ⟨E1, hE1⟩ : ∃ E, E = compE p args := ⟨_, rfl⟩
  have HE1 : Hid (E1 = compE p args) := hE1
  rw [← hE1]
  clear hE1
  have HLc : Hid (∀ m ∈ compL p args, Lim m.1) := HC.out.lim
  by_cases h1 : E1 = 0
  rotate_left
  · have hb1 : (E1 != 0) = true := by rw [bne_iff_ne]; exact h1
    have hn : compL p args = [] := by unfold compL; rw [← HE1.out, if_neg h1]
    have hc := HC.out
    rw [hn] at hc
    obtain ⟨an, cn, rfl, _⟩ := Row.flat hc
    clear h1 hn hc
    rw [List.length_nil] at HC ⊢
    go_wp2
    go_ret
    exact ⟨rfl, HB.out⟩
  subst h1
  go_wp2
  go_loopw [10, 11] (fun x i wr => ∃ k : Nat, k ≤ args.length ∧ i = .int .i64 k ∧ (∀ (j : Nat) (a : List Mn), j < k → args[j]? = some a → valE a ats = 0) ∧ OwR wr w2.heap.size x ((args.take k).map fun a => valL a ats) ∧ Below w2.heap.size w2 wr) (fun _ i _ => args.length - (intOf i).toNat)
  case atStart => exact ⟨0, Nat.zero_le _, rfl, fun j a hj => absurd hj (by omega), OwR.empty (Nat.le_refl _), below_alloc _⟩
  case round =>
    obtain ⟨k, hk, rfl, hp, hor, hbl⟩ := hrel
    have HPk : Hid (∀ (j : Nat) (a : List Mn), j < k → args[j]? = some a → valE a ats = 0) := hp
    have HO : Hid (OwR wr w2.heap.size u10 ((args.take k).map fun a => valL a ats)) := hor
    have HAr : Hid (Rs wr bv ats) := HA.out.kp (Kp.of_below hbl)
    have HBr : Hid (Below w2.heap.size w2 wr) := hbl
    clear hp hor
    by_cases hlt : k < args.length
    · obtain ⟨g, off, a, a1, c1, rfl, hm1, hc0, hmo, hl1, hl2⟩ := (HQ.out.kp (Kp.of_below hbl)).at hlt
      have HX : Hid (args[k]? = some a) := hm1
      clear hm1 hbl
      go_wp2_with fail
      refine (value_own _ _ a ats _ hmo HAr.out).mono ?_
      rintro e w1 ⟨v1, rfl, o1, hb1⟩
      obtain ⟨b1, n1, d1, rfl⟩ := o1.slice
      have HV : Hid (Ow w1 w2.heap.size (.slice b1 n1 d1) (valL a ats)) := o1.mono HBr.out.size
      have HB1 : Hid (Below wr.heap.size wr w1) := hb1
      have HBw : Hid (Below w2.heap.size w2 w1) := below_step HBr.out hb1
      clear o1 hb1 hmo hc0
      obtain ⟨E, hE⟩ : ∃ E, E = valE a ats := ⟨_, rfl⟩
      have HE : Hid (E = valE a ats) := hE
      rw [← hE]
      clear hE
      by_cases h0 : E = 0
      rotate_left
      · have hb0 : (E != 0) = true := by rw [bne_iff_ne]; exact h0
        clear h0
        go_wp2
        go_ret
        exact ⟨rfl, below_step HB.out HBw.out⟩
      subst h0
      obtain ⟨cs, hcl, hcc, hcow⟩ := HO.out
      have htk : ((args.take k).map fun a => valL a ats).length = k := by simp; omega
      have HCl : Hid (cs.length = ((args.take k).map fun a => valL a ats).length) := hcl
      have HCC : Hid (∀ (i : Nat) (c : Value) (x : List Nat), cs[i]? = some c → ((args.take k).map fun a => valL a ats)[i]? = some x → Ow wr w2.heap.size c x) := hcc
      have hb2 := below_step HB1.out (below_alloc (w := w1) (.cells #[.slice b1 n1 d1] 25))
      have hb3 := below_alloc (w := w1) (.cells #[.slice b1 n1 d1] 25)
      obtain ⟨W2, hW2⟩ : ∃ X, X = w1.alloc (.cells #[.slice b1 n1 d1] 25) := ⟨_, rfl⟩
      have HNew : Hid (∀ (j : Nat) (u : Value), [Value.slice b1 n1 d1][j]? = some u → W2.cell? ((⟨w1.heap.size, 0, none⟩ : Addr).add j) = some u) := by
        intro j u hu
        rw [hW2, Addr.add_lit, Nat.zero_add, cell_of_row _ _ _ _ _ _ (heap_alloc_new _ _)]
        simpa using hu
      rw [← hW2] at hb2 hb3
      have HOw : Hid (W2.ownsRow w2.heap.size 25 1 u10 ((args.take k).map fun a => valL a ats).length cs) := ownsRow_later hcow hb2
      have HW2 : Hid (Below w2.heap.size w2 W2) := below_step HBr.out hb2
      have HB2 : Hid (Below wr.heap.size wr W2) := hb2
      have HV2 : Hid (Ow W2 w2.heap.size (.slice b1 n1 d1) (valL a ats)) := HV.out.since hb3
      have HTk : Hid (((args.take k).map fun a => valL a ats).length = k) := htk
      clear hcl hcc hcow hb2 hb3 htk
      subst hW2
      go_wp2_with (at_builtin; refine wpList_append_own _ rfl _ _ 23 rfl w2.heap.size 25 i0 _ 1 24 under_rows hi hz0 hz1 hz2 rfl (by decide) u10 ((args.take k).map fun a => valL a ats).length cs rfl HOw.out _ 1 1 [.slice b1 n1 d1] rfl rfl HNew.out (by intro u hu; simp at hu; subst hu; rfl) (by rw [HTk.out]; unfold maxLen; omega) (by rw [HTk.out]; omega) HW2.out.size ?_; intro v5 w5 hown5 hgrow5 _)
      have hor5 := OwR.snoc HCl.out (fun i c x h1 h2 => (HCC.out i c x h1 h2).since HB2.out) HOw.out HV2.out hown5 hgrow5
      have HO5 : Hid (OwR w5 w2.heap.size v5 ((args.take (k + 1)).map fun a => valL a ats)) := by
        have e : args.take (k + 1) = args.take k ++ [a] := take_get HX.out
        show OwR _ _ _ _
        rw [e, List.map_append]
        exact hor5
      have HB5 : Hid (Below w2.heap.size w2 w5) := HW2.out.grown hgrow5 HW2.out.size (fun j hj => own_blk HOw.out hj)
      clear hor5 hown5 hgrow5
      try go_wp2
      go_roundw
      case rel =>
        refine ⟨k + 1, by omega, by go_num, fun j b hj hb => ?_, HO5.out, HB5.out⟩
        by_cases hjk : j = k
        · subst hjk; rw [HX.out] at hb; cases hb; exact HE.out.symm
        · exact HPk.out j b (by omega) hb
      case measure => simp [intOf]; omega
    · have hke : k = args.length := by omega
      have HAll : Hid (∀ a ∈ args, valE a ats = 0) := fun a ha => by
        obtain ⟨j, hj⟩ := List.mem_iff_getElem?.1 ha
        exact HPk.out j a (by have := (List.getElem?_eq_some_iff.1 hj).1; omega) hj
      have hor := HO.out
      rw [List.take_of_length_le (by omega)] at hor
      have HR : Hid (Rs wr u10 (args.map fun a => valL a ats)) := hor.rs
      have HB9 : Hid (Below w.heap.size w wr) := below_step HB.out HBr.out
      have K9 := Kp.of_below HBr.out
      have HPn : Hid (Ms wr v p) := HP.out.kp K9
      clear HP
      have HP := HPn
      clear HPn
      have HQn : Hid (Ps wr (.slice ao args.length cap) args) := HQ.out.kp K9
      clear HQ
      have HQ := HQn
      clear HQn
      have HAn : Hid (Rs wr bv ats) := HA.out.kp K9
      clear HA
      have HA := HAn
      clear HAn
      have HCn : Hid (Ms wr vc (compL p args)) := HC.out.kp K9
      clear HC
      have HC := HCn
      clear HCn
      clear HB hor HO HAr K9 HBr hbl
      have HB := HB9
      clear HB9
      go_wp2_with fail
      refine (value_any _ _ (compL p args) ats _ HC.out HA.out).mono ?_
      rintro e w3 ⟨va, rfl, sa, hb⟩
      have K := Kp.of_below hb
      have B := hb
      clear hb
      have HBn : Hid (Below w.heap.size w w3) := below_step HB.out B
      clear HB B
      have HB := HBn
      clear HBn
      have HPn : Hid (Ms w3 v p) := HP.out.kp K
      clear HP
      have HP := HPn
      clear HPn
      have HQn : Hid (Ps w3 (.slice ao args.length cap) args) := HQ.out.kp K
      clear HQ
      have HQ := HQn
      clear HQn
      have HAn : Hid (Rs w3 bv ats) := HA.out.kp K
      clear HA
      have HA := HAn
      clear HAn
      have HCn : Hid (Ms w3 vc (compL p args)) := HC.out.kp K
      clear HC
      have HC := HCn
      clear HCn
      have HRn : Hid (Rs w3 u10 (args.map fun a => valL a ats)) := HR.out.kp K
      clear HR
      have HR := HRn
      clear HRn
      clear K
      have HVa : Hid (Sl w3 va (valL (compL p args) ats)) := sa
      clear sa
      obtain ⟨F1, hF1⟩ : ∃ E, E = valE (compL p args) ats := ⟨_, rfl⟩
      have HF1 : Hid (F1 = valE (compL p args) ats) := hF1
      rw [← hF1]
      clear hF1
      go_wp2_with fail
      refine (value_any _ _ p (args.map fun a => valL a ats) _ HP.out HR.out).mono ?_
      rintro e w4 ⟨vb, rfl, sb, hb⟩
      have K := Kp.of_below hb
      have B := hb
      clear hb
      have HBn : Hid (Below w.heap.size w w4) := below_step HB.out B
      clear HB B
      have HB := HBn
      clear HBn
      have HPn : Hid (Ms w4 v p) := HP.out.kp K
      clear HP
      have HP := HPn
      clear HPn
      have HQn : Hid (Ps w4 (.slice ao args.length cap) args) := HQ.out.kp K
      clear HQ
      have HQ := HQn
      clear HQn
      have HAn : Hid (Rs w4 bv ats) := HA.out.kp K
      clear HA
      have HA := HAn
      clear HAn
      have HCn : Hid (Ms w4 vc (compL p args)) := HC.out.kp K
      clear HC
      have HC := HCn
      clear HCn
      have HRn : Hid (Rs w4 u10 (args.map fun a => valL a ats)) := HR.out.kp K
      clear HR
      have HR := HRn
      clear HRn
      have HVan : Hid (Sl w4 va (valL (compL p args) ats)) := HVa.out.kp K
      clear HVa
      have HVa := HVan
      clear HVan
      clear K
      have HVb : Hid (Sl w4 vb (valL p (args.map fun a => valL a ats))) := sb
      clear sb
      obtain ⟨F2, hF2⟩ : ∃ E, E = valE p (args.map fun a => valL a ats) := ⟨_, rfl⟩
      have HF2 : Hid (F2 = valE p (args.map fun a => valL a ats)) := hF2
      rw [← hF2]
      clear hF2
      by_cases hF1 : F1 = 0
      rotate_left
      · have hbF1 : (F1 != 0) = true := by rw [bne_iff_ne]; exact hF1
        clear hF1
        go_wp2
        go_ret
        exact ⟨rfl, HB.out⟩
      subst hF1
      by_cases hF2 : F2 = 0
      rotate_left
      · have hbF2 : (F2 != 0) = true := by rw [bne_iff_ne]; exact hF2
        clear hF2
        go_wp2
        go_ret
        exact ⟨rfl, HB.out⟩
      subst hF2
      have HJ : Hid (decide (valL (compL p args) ats = valL p (args.map fun a => valL a ats)) = true) := decide_eq_true (value_inside HL.out HLa.out HLc.out HF.out HE1.out.symm HAll.out HF1.out.symm HF2.out.symm)
      go_wp2_with fail
      refine (sameNat_at _ _ _ _ _ _ HJ.out HVa.out HVb.out).mono ?_
      rintro e w5 ⟨rfl, n, hw⟩
      have K := kp_drawn hw
      have B := below_drawn hw
      clear hw
      have HBn : Hid (Below w.heap.size w w5) := below_step HB.out B
      clear HB B
      have HB := HBn
      clear HBn
      have HPn : Hid (Ms w5 v p) := HP.out.kp K
      clear HP
      have HP := HPn
      clear HPn
      have HQn : Hid (Ps w5 (.slice ao args.length cap) args) := HQ.out.kp K
      clear HQ
      have HQ := HQn
      clear HQn
      have HAn : Hid (Rs w5 bv ats) := HA.out.kp K
      clear HA
      have HA := HAn
      clear HAn
      have HCn : Hid (Ms w5 vc (compL p args)) := HC.out.kp K
      clear HC
      have HC := HCn
      clear HCn
      have HRn : Hid (Rs w5 u10 (args.map fun a => valL a ats)) := HR.out.kp K
      clear HR
      have HR := HRn
      clear HRn
      have HVan : Hid (Sl w5 va (valL (compL p args) ats)) := HVa.out.kp K
      clear HVa
      have HVa := HVan
      clear HVan
      have HVbn : Hid (Sl w5 vb (valL p (args.map fun a => valL a ats))) := HVb.out.kp K
      clear HVb
      have HVb := HVbn
      clear HVbn
      clear K
      go_wp2
      go_ret
      exact ⟨rfl, HB.out⟩

set_option maxRecDepth 100000 in
theorem polyInside_lifted (os : Os) (started : os.Started) (H : Type) (enc : TypeId × Value → H) :
    ReturnsInHanded {} Try.checked os 4 .any (Rows.polyInsideSpec.pre6 enc Try.prog Try.f4 Rows.polyInsideRow.domain false) (Rows.polyInsideSpec.post enc Try.prog Try.f4 false true false false) := by
  refine returnsInHanded_of_change_sized (C := Try.checked) own started (by kernel_rfl) Try.func4
    (ChangeSpec.witness6 (enc := enc) (C := Try.checked) false ⟨#[], #[.slice none 0 0, .slice none 0 0, .slice none 0 0], []⟩ 8 (by kernel_rfl) (by kernel_rfl) (by kernel_rfl) (by kernel_rfl)) ?_
  intro W base args ds gs before hval0 hW hcnd hsz0 _
  have hsz : (DataW.weightsEach Try.prog (Try.f4.params.toList ++ Rows.polyInsideSpec.plain.varTypes Try.prog) (ds ++ gs)).all (· ≤ reachBytes) = true := hsz0
  have hval : ∀ (j : Nat) t v, Try.f4.params[j]? = some t → args[j]? = some v → Value.okWide Try.prog W .any base t v := hval0
  have hW' := hW
  obtain ⟨p, q, hA0, hV, rfl, hfz, hnd⟩ := hW
  have hA : DataW.TrodAll enc Try.prog W 0 (fun _ => true) true Try.f4.params.toList args.toList ds p := hA0
  rw [Try.params4] at hA hval hsz
  obtain ⟨v0, vs0, d0, ds0, p0, q0, hargs, rfl, rfl, h0, r0⟩ := trodAll_cons hA
  obtain ⟨v1, vs1, d1, ds1, p1, q1, rfl, rfl, rfl, h1, r1⟩ := trodAll_cons r0
  obtain ⟨v2, vs2, d2, ds2, p2, q2, rfl, rfl, rfl, h2, r2⟩ := trodAll_cons r1
  obtain ⟨rfl, rfl, rfl⟩ := trodAll_nil r2
  obtain rfl : args = #[v0, v1, v2] := by cases args; simp_all
  obtain ⟨rfl, rfl⟩ := trodVars_none hV
  obtain ⟨a0, len0, cap0, rfl⟩ := okWide_slice Try.underlying22 (hval 0 22 v0 rfl rfl)
  have k0 := h0
  have lt0 : ∀ x ∈ p0, x.block < W.heap.size := by obtain ⟨m, hm⟩ := k0; exact DataW.trod_lt m _ _ _ hm
  obtain ⟨z0, w0⟩ : ∃ zs, Ms W (.slice a0 len0 cap0) zs := by
    obtain ⟨fuel, hf⟩ := h0
    obtain ⟨v, zs, e, hz, hfit⟩ := open_monos hf
    simp [Value.cells] at e
    subst e
    exact ⟨zs, hz⟩
  obtain ⟨a1, len1, cap1, rfl⟩ := okWide_slice Try.underlying34 (hval 1 34 v1 rfl rfl)
  have k1 := h1
  have lt1 : ∀ x ∈ p1, x.block < W.heap.size := by obtain ⟨m, hm⟩ := k1; exact DataW.trod_lt m _ _ _ hm
  obtain ⟨z1, w1, g1⟩ : ∃ zs, Ps W (.slice a1 len1 cap1) zs ∧ FitP reachBytes zs := by
    obtain ⟨fuel, hf⟩ := h1
    obtain ⟨v, zs, e, hz, hfit⟩ := open_polys hf
    simp [Value.cells] at e
    subst e
    exact ⟨zs, hz, hfit _ fun n hn => of_decide_eq_true (List.all_eq_true.1 hsz _ (DataW.weights_mem_each (j := 1) (t := 34) rfl rfl n hn))⟩
  obtain ⟨a2, len2, cap2, rfl⟩ := okWide_slice Try.underlying23 (hval 2 23 v2 rfl rfl)
  have k2 := h2
  have lt2 : ∀ x ∈ p2, x.block < W.heap.size := by obtain ⟨m, hm⟩ := k2; exact DataW.trod_lt m _ _ _ hm
  obtain ⟨z2, w2⟩ : ∃ zs, Rs W (.slice a2 len2 cap2) zs := by
    obtain ⟨fuel, hf⟩ := h2
    obtain ⟨v, zs, e, hz⟩ := open_rows hf
    simp [Value.cells] at e
    subst e
    exact ⟨zs, hz⟩
  clear hA0 hval0
  refine (polyInside_any _ _ _ z0 z1 z2 W w0 w1 w2 (by have := g1.1; simpa [reachBytes] using this)).mono fun e W' ⟨he, bel⟩ => ?_
  subst he
  exact ⟨_, rfl, _, _, _, [], _, [], hW', trodAll_mk1 (shut_bool Try.underlying4 _), (trodAll_cons_mk (Below.trod laidOut (by kernel_rfl) (of_decide_eq_true (by kernel_rfl)) k0 bel lt0) (trodAll_cons_mk (Below.trod laidOut (by kernel_rfl) (of_decide_eq_true (by kernel_rfl)) k1 bel lt1) (trodAll_cons_mk (Below.trod laidOut (by kernel_rfl) (of_decide_eq_true (by kernel_rfl)) k2 bel lt2) trodAll_mk0))), rfl, bel.frame _, fun h => by cases h⟩

theorem polyInside_holds : Rows.PolyInsideSaid :=
  OpenClaim.holds_of_wide 4 Try.f4 rfl rfl rfl rfl rfl rfl rfl ⟨rfl, rfl, rfl, rfl, rfl⟩ rfl rfl rfl rfl rfl (by kernel_rfl) Try.func4 (by kernel_rfl)
    (of_decide_eq_true (by kernel_rfl)) (by unfold Func.isWrapper; first | (rw [if_pos (by decide +kernel)]; kernel_rfl) | (rw [if_neg (by decide +kernel)]; exact ⟨rfl, rfl⟩))
    (fun os started H enc _ => polyInside_lifted os started H enc)

#print axioms polyInside_holds

end Go.Proofs.Ytfifgmcjilkigab
