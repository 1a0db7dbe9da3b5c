/- The map of like monomials in memory; what put answers. -/
import Derived.Test.YtfifgmcjilkigaaPKey
import Derived.Test.YtfifgmcjilkigaaPArr
import Derived.Test.YtfifgmcjilkigaaPOwn
import Derived.Test.YtfifgmcjilkigaaSum
import Derived.Maps.Own
import Derived.Maps.OwnOps
import Derived.Maps.OwnSet
import Derived.Maps.Range
import Derived.Maps.RangeWalk
import Derived.DeepKeys4
namespace Go.Proofs.Ytfifgmcjilkigaa
open Go.RowKit Go.Maps

theorem laidOut : laidOutB Try.prog = true := by kernel_rfl
theorem rowKey : (70 : TypeId) < Try.prog.types.size := of_decide_eq_true (by kernel_rfl)
theorem wideKey : (match Try.prog.underlying 70 with | some (.array _ _) | some (.struct _) => true | _ => false) = true := by rw [under_arr]
set_option maxRecDepth 100000 in
theorem keyLaw : WideMaps.KeyLaw Try.prog 70 := deep_law_laid laidOut (m := 2) (by omega) rowKey (by kernel_rfl) wideKey
theorem keyed : Keyed Try.prog 70 := Keyed.of_law keyLaw
theorem under_map : Try.prog.underlying 62 = some (.map 70 82) := by kernel_rfl
theorem zeroCoef (w : World) : (zeroValue 82).run Try.prog w = .ok (.agg #[.slice none 0 0]) w := by kernel_rfl

/-- Whether a row of bytes is a key. -/
def WfK (ks : List Nat) : Prop := ks.length = 512 ∧ ∀ (j x : Nat), ks[j]? = some x → x < 256

theorem mapM_some {α β : Type} (f : α → Option β) (g : α → β) : ∀ l : List α, (∀ x ∈ l, f x = some (g x)) → l.mapM f = some (l.map g)
  | [], _ => by simp
  | a :: l, h => by
    rw [List.mapM_cons, h a (by simp), mapM_some f g l (fun x hx => h x (by simp [hx]))]
    rfl

/-- What a key reads as. -/
def kl (ks : List Nat) : Lit := .string (keyBytes (((List.range 512).map fun i => [Lit.int .u8 ((ks[i]?.getD 0 : Nat) : Int)]).flatten))

theorem keyOf_arr {ks : List Nat} (h : WfK ks) : keyOf Try.prog 70 (.agg (arr ks)) = some (kl ks) := by
  have h1 : Try.prog.keyType 70 = true := by kernel_rfl
  have h2 : Try.prog.cellsOf 70 = 512 := by kernel_rfl
  have h3 : Try.prog.cellsOf 5 = 1 := by kernel_rfl
  have h4 : Try.prog.underlying 5 = some (.int .u8) := by kernel_rfl
  have h5 : ∃ d, Try.prog.types.size + 1 = d + 1 + 1 := ⟨Try.prog.types.size - 1, by have : 1 ≤ Try.prog.types.size := of_decide_eq_true (by kernel_rfl); omega⟩
  have hf : (Value.agg (arr ks)).formed Try.prog 70 = true := by
    simp only [Value.formed, under_arr, h2, arr_size, h.1]; rfl
  unfold keyOf
  simp only [under_arr, h1, hf, Bool.and_self, if_true]
  obtain ⟨d, hd⟩ := h5
  rw [hd]
  have hk : Try.prog.keyLits (d + 1 + 1) 70 (Value.agg (arr ks)).cells.toList = some (((List.range 512).map fun i => [Lit.int .u8 ((ks[i]?.getD 0 : Nat) : Int)]).flatten) := by
    unfold Program.keyLits
    simp only [under_arr, h2, h3]
    have hl : (Value.agg (arr ks)).cells.toList.length = 512 := by simp [Value.cells, arr, h.1]
    rw [if_pos hl, mapM_some _ (fun i => [Lit.int .u8 ((ks[i]?.getD 0 : Nat) : Int)])]
    · rfl
    · intro i hi
      have hi5 : i < 512 := List.mem_range.1 hi
      obtain ⟨x, hx⟩ : ∃ x, ks[i]? = some x := exists_get (by have := h.1; omega)
      have hx8 := h.2 i x hx
      have hc : (((Value.agg (arr ks)).cells.toList.drop (i * 1)).take 1) = [.int .u8 (x : Int)] := by
        simp only [Value.cells, arr, Nat.mul_one]
        have : (ks.map fun (x : Nat) => Value.int .u8 (x : Int))[i]? = some (.int .u8 (x : Int)) := by rw [List.getElem?_map, hx]; rfl
        rw [drop_get this]; rfl
      rw [hc]
      unfold Program.keyLits
      simp only [h4]
      have hwf : (Lit.int .u8 (x : Int)).wf = true := by
        have e0 : IntKind.u8.min = 0 := by decide
        have e1 : IntKind.u8.max = 255 := by decide
        simp [Lit.wf, e0, e1]; omega
      rw [if_pos ⟨trivial, hwf⟩, hx]
      rfl
  rw [hk]
  rfl

/-- An element of the map, read as the value that it is. -/
def RV (v : Value) : Option (DataW Value × List MemPlace) := some (.held v, [])

theorem kl_inj {a b : List Nat} (ha : WfK a) (hb : WfK b) (h : kl a = kl b) : a = b := by
  have h1 := keyOf_arr ha
  rw [h] at h1
  have := keyed.inj h1 (keyOf_arr hb)
  simp only [Value.agg.injEq, arr] at this
  have h2 : (a.map fun (x : Nat) => Value.int .u8 (x : Int)) = b.map fun (x : Nat) => Value.int .u8 (x : Int) := by simpa using this
  apply List.ext_getElem?
  intro i
  have h3 := congrArg (fun l => l[i]?) h2
  simp only [List.getElem?_map] at h3
  cases hai : a[i]? <;> cases hbi : b[i]? <;> simp_all
  omega

/-- Block b of w is the map L; its limbs are the call's own, from base on. -/
structure MapOk (w : World) (base b : Nat) (L : Lk) : Prop where
  rising : Rising L
  keys : ∀ p ∈ L, WfK p.1
  own : ∃ D : DataW Value, w.ownsMap Try.prog 70 RV b L.length D ∧ Maps.size D = L.length ∧
    (∀ k c, (k, c) ∈ L → ∃ v, (∀ z, D.atKey (kl k) z = .held (.agg #[v])) ∧ Ow w base v c ∧ Maps.has D (kl k) = true) ∧
    (∀ l, Maps.has D l = true → ∃ k c, (k, c) ∈ L ∧ l = kl k)

theorem ow_notMap {w : World} {base b : Nat} {v : Value} {c : List Nat} {es : Array MapEntry} {clock : Nat} (h : Ow w base v c) (hb : w.heap[b]? = some (.map es clock)) : v.ownBlock = none ∨ v.ownBlock ≠ some b := by
  rcases h.2.2 with ⟨rfl, _⟩ | ⟨g, cap, cur, rfl, _, hg, _⟩
  · exact .inl rfl
  · refine .inr ?_
    simp only [Value.ownBlock]
    intro e
    cases e
    rw [hg] at hb
    cases hb

theorem MapOk.isMap {w : World} {base b : Nat} {L : Lk} (h : MapOk w base b L) : ∃ es clock, w.heap[b]? = some (.map es clock) := by
  obtain ⟨D, hD, _⟩ := h.own
  obtain ⟨es, clock, hb, _⟩ := hD
  exact ⟨es, clock, hb⟩

theorem MapOk.lt {w : World} {base b : Nat} {L : Lk} (h : MapOk w base b L) : b < w.heap.size := by
  obtain ⟨es, clock, hb⟩ := h.isMap
  exact (Array.getElem?_eq_some_iff.1 hb).1

theorem MapOk.later {w w' : World} {base b : Nat} {L : Lk} (h : MapOk w base b L) (hb : Below w.heap.size w w') : MapOk w' base b L := by
  obtain ⟨D, h1, h2, h3, h4⟩ := h.own
  refine ⟨h.rising, h.keys, D, h1.kept (row := none) ⟨hb.os, hb.tape, hb.output, hb.size, fun k hk _ => hb.block k hk⟩ (by simp), h2, fun k c hk => ?_, h4⟩
  obtain ⟨v, a, o, d⟩ := h3 k c hk
  exact ⟨v, a, o.since hb, d⟩

theorem MapOk.made (w : World) (base : Nat) : MapOk (w.alloc (.map #[] 0)) base w.heap.size [] :=
  ⟨List.Pairwise.nil, fun p hp => (by cases hp), ⟨DataW.map [], World.ownsMap_made w _ _ _, rfl, fun k c hk => (by cases hk), fun l hl => (by simp [Maps.has] at hl)⟩⟩

theorem grown_of_below {w w' : World} (h : Below w.heap.size w w') (row : Option Nat) : w.grownBy w' row := ⟨h.os, h.tape, h.output, h.size, fun k hk _ => h.block k hk⟩

theorem Kp.of_map {w w' : World} {b : Nat} {es : Array MapEntry} {clock : Nat} (hg : w.grownBy w' (some b)) (hb : w.heap[b]? = some (.map es clock)) : Kp w w' := by
  refine ⟨hg.size, fun a v hv => ?_⟩
  have hlt := World.block_lt_of_cell? w a hv
  have hne : a.block ≠ b := by
    intro e
    simp [World.cell?, e, hb] at hv
  rw [World.cell?_of_block (hg.block a.block hlt (by simpa using hne))]
  exact hv

/-- What a look-up gives. -/
theorem MapOk.look {w : World} {base b : Nat} {L : Lk} (h : MapOk w base b L) {k : List Nat} (hk : WfK k) :
    ∃ v, (Instr.lookup 62 (.map (some b)) (.agg (arr k)) false).run Try.prog w = .ok (.agg #[v]) w ∧ Ow w base v (coefK L k) := by
  obtain ⟨D, h1, h2, h3, h4⟩ := h.own
  obtain ⟨u, ps, hrun, hR⟩ := h1.lookup keyed under_map (zeroCoef w) (zd := .held (.agg #[.slice none 0 0])) (zp := []) rfl (keyOf_arr hk)
  have hu : D.atKey (kl k) (.held (.agg #[.slice none 0 0])) = .held u := by
    simp only [RV, Option.some.injEq, Prod.mk.injEq] at hR
    exact hR.1.symm
  cases hh : hasK L k with
  | true =>
    obtain ⟨c, hc⟩ := hasK_iff.1 hh
    obtain ⟨v, ha, ho, _⟩ := h3 k c hc
    rw [ha] at hu
    injection hu with hu
    subst hu
    exact ⟨v, hrun, by rw [coefK_mem h.rising hc]; exact ho⟩
  | false =>
    have hf : Maps.has D (kl k) = false := by
      rw [Bool.eq_false_iff]
      intro ht
      obtain ⟨k', c', hc', e⟩ := h4 _ ht
      have := kl_inj hk (h.keys _ hc') e
      subst this
      have := hasK_iff.2 ⟨c', hc'⟩
      rw [hh] at this
      cases this
    rw [atKey_of_not_has hf] at hu
    injection hu with hu
    subst hu
    exact ⟨_, hrun, by rw [coefK_none hh]; exact Ow.nil w base⟩

/-- What a store leaves. -/
theorem MapOk.store {w : World} {base b : Nat} {L : Lk} (h : MapOk w base b L) {k c : List Nat} {v : Value} (hk : WfK k) (hL : L.length < maxLen) (hv : Ow w base v c) :
    ∃ w', (Instr.mapUpdate 62 (.map (some b)) (.agg (arr k)) (.agg #[v])).run Try.prog w = .ok () w' ∧ MapOk w' base b (insK L k c) ∧ w.grownBy w' (some b) := by
  obtain ⟨es, clock, hbm⟩ := h.isMap
  obtain ⟨D, h1, h2, h3, h4⟩ := h.own
  obtain ⟨w', hrun, ho, hg⟩ := h1.update keyed under_map hL (keyOf_arr hk) (val := .agg #[v]) (d := .held (.agg #[v])) (ps := []) rfl
  have hT := h1.tidy keyed
  have hK := keyed.key (keyOf_arr hk)
  have hhas : Maps.has D (kl k) = hasK L k := by
    rw [Bool.eq_iff_iff]
    constructor
    · intro ht
      obtain ⟨k', c', hc', e⟩ := h4 _ ht
      have := kl_inj hk (h.keys _ hc') e
      subst this
      exact hasK_iff.2 ⟨c', hc'⟩
    · intro ht
      obtain ⟨c', hc'⟩ := hasK_iff.1 ht
      obtain ⟨_, _, _, hd⟩ := h3 k c' hc'
      exact hd
  have hsz : Maps.size (D.put (kl k) (.held (.agg #[v]))) = (insK L k c).length := by
    rw [size_put hT, length_insK h.rising, hhas, h2]
  obtain ⟨es', clock', hb', F', _, hD'⟩ := ho
  have hes : es'.size = (insK L k c).length := by
    rw [← hsz, hD', Maps.size_eq, length_sorted]
    simp
  refine ⟨w', hrun, ⟨rising_insK h.rising, fun p hp => ?_, ⟨D.put (kl k) (.held (.agg #[v])), ⟨es', clock', hb', F', Nat.le_of_eq hes, hD'⟩, hsz, fun k' c' hm => ?_, fun l hl => ?_⟩⟩, hg⟩
  · rcases (mem_insK h.rising p).1 hp with rfl | ⟨hp, _⟩
    · exact hk
    · exact h.keys p hp
  · rcases (mem_insK h.rising _).1 hm with e | ⟨hm, hne⟩
    · cases e
      exact ⟨v, fun z => atKey_put_same hT.isMap hK _ z, hv.held hg (ow_notMap hv hbm), has_put_same hT.isMap hK _⟩
    · obtain ⟨u, ha, hou, hd⟩ := h3 k' c' hm
      have hne' : kl k' ≠ kl k := fun e => hne (kl_inj (h.keys _ hm) hk e)
      exact ⟨u, fun z => by rw [atKey_put_other hne']; exact ha z, hou.held hg (ow_notMap hou hbm), by rw [has_put_other hne']; exact hd⟩
  · by_cases e : l = kl k
    · exact ⟨k, c, (mem_insK h.rising _).2 (.inl rfl), e⟩
    · rw [has_put_other e] at hl
      obtain ⟨k', c', hc', rfl⟩ := h4 l hl
      exact ⟨k', c', (mem_insK h.rising _).2 (.inr ⟨hc', fun e2 => e (by rw [show k' = k from e2])⟩), rfl⟩

theorem MapOk.len {w : World} {base b : Nat} {L : Lk} (h : MapOk w base b L) (ty : TypeId) : (Builtin.len_ #[62] ty #[.map (some b)]).run Try.prog w = .ok (.int .i64 (L.length : Int)) w := by
  obtain ⟨D, h1, h2, _⟩ := h.own
  have := h1.len under_map ty
  rw [h2] at this
  exact this

theorem grown_trans {a b c : World} {row : Option Nat} (h : a.grownBy b row) (k : b.grownBy c row) : a.grownBy c row :=
  ⟨k.os.trans h.os, k.tape.trans h.tape, k.output.trans h.output, Nat.le_trans h.size k.size, fun i hi hne => (k.block i (Nat.lt_of_lt_of_le hi h.size) hne).trans (h.block i hi hne)⟩

theorem field_coef (u : Value) (w : World) : (Instr.field 82 (.agg #[u]) 0).run Try.prog w = .ok u w := by kernel_rfl

section
variable {P : Program} {w w' : World} {ops : Array Oper} {rest : List Oper} {o : Oper} {a : Act} {Q : Exit → Act → World → Prop}

theorem wpList_lookup_run (hg : o.guard = none) (m x : Operand) (t : TypeId) (c : Bool) (hop : o.op = Op.lookup t m x c) (mv kv r : Value) (hm : a.eval m = mv) (hx : a.eval x = kv) (hrun : (Instr.lookup t mv kv c).run P w = .ok r w)
    (h : wpList P ops Q rest (a.put o.dst r) w) : wpList P ops Q (o :: rest) a w := by
  refine wpList_plain hg fun K' hK' => ?_
  unfold Oper.wp
  simp [execOp, hop, hm, hx, hrun, Result.andThen]
  exact hK' _ _ h

theorem wpList_mapUpdate_run (hg : o.guard = none) (m x v : Operand) (t : TypeId) (hop : o.op = Op.mapUpdate t m x v) (mv kv vv : Value) (hm : a.eval m = mv) (hx : a.eval x = kv) (hv : a.eval v = vv) (hrun : (Instr.mapUpdate t mv kv vv).run P w = .ok () w')
    (h : wpList P ops Q rest (a.put o.dst undef) w') : wpList P ops Q (o :: rest) a w := by
  refine wpList_plain hg fun K' hK' => ?_
  unfold Oper.wp
  simp [execOp, hop, hm, hx, hv, hrun, Result.andThen]
  exact hK' _ _ h

end

set_option maxRecDepth 100000 in
set_option maxHeartbeats 1600000 in
theorem put_any (b base : Nat) (L : Lk) (k c : List Nat) (v : Value) (w : World) (h : MapOk w base b L) (hk : WfK k) (hc : Sl w v c) (hL : L.length ≤ 256) (hB : base ≤ w.heap.size) :
    Calls Try.prog 64 #[.map (some b), .agg (arr k), v] w fun e w' => e = .returned (.int .i64 (putE L k c)) ∧ MapOk w' base b (putL L k c) ∧ w.grownBy w' (some b) := by
  have hb1 := below_alloc (w := w) (.cells (arr k) 70)
  have h1 := h.later hb1
  have hc1 := hc.kp (Kp.of_below hb1)
  obtain ⟨u, hrun, hu⟩ := h1.look hk
  have HG1 : Hid (w.grownBy (w.alloc (.cells (arr k) 70)) (some b)) := grown_of_below hb1 _
  have hl512 := hk.1
  have HK : Hid (WfK k) := hk
  have HRun : Hid ((Instr.lookup 62 (.map (some b)) (.agg (arr k)) false).run Try.prog (w.alloc (.cells (arr k) 70)) = .ok (.agg #[u]) (w.alloc (.cells (arr k) 70))) := hrun
  have H1 : Hid (MapOk (w.alloc (.cells (arr k) 70)) base b L) := h1
  have HC1 : Hid (Sl (w.alloc (.cells (arr k) 70)) v c) := hc1
  have HU : Hid (Ow (w.alloc (.cells (arr k) 70)) base u (coefK L k)) := hu
  have hB1 : Hid (base ≤ (w.alloc (.cells (arr k) 70)).heap.size) := Nat.le_trans hB hb1.size
  clear hb1 h1 hc1 hu h hk hc hrun
  have hfield := field_coef u
  go_enter Try.func64, Try.ntmps64
  go_wp2_with (first
    | (refine wpList_load_row rfl _ _ rfl w.heap.size rfl _ _ _ _ (Ar.new w k) under_arr rfl (by rw [info_arr, arr_size, hl512]) ?_)
    | (at_lookup; refine wpList_lookup_run rfl _ _ _ _ rfl _ _ _ rfl rfl HRun.out ?_))
  refine (add_any u v (coefK L k) c _ HU.out.sl HC1.out).mono ?_
  rintro e w1 ⟨v', rfl, ho, hb⟩
  obtain ⟨ao, n, cap, rfl⟩ := ho.slice
  have HG2 : Hid (w.grownBy w1 (some b)) := grown_trans HG1.out (grown_of_below hb _)
  have HO : Hid (Ow w1 base (.slice ao n cap) (addL (coefK L k) c)) := ho.mono hB1.out
  have H2 : Hid (MapOk w1 base b L) := H1.out.later hb
  have HA : Hid (Ar w1 w.heap.size k) := (Ar.new w k).later hb
  clear ho hb H1 HC1 HU HG1 hB1 HRun
  obtain ⟨E, hE⟩ : ∃ E, E = addE (coefK L k) c := ⟨_, rfl⟩
  have HE : Hid (E = addE (coefK L k) c) := hE
  rw [← hE]
  clear hE
  by_cases hE0 : E = 0
  · subst hE0
    have HE' : Hid (addE (coefK L k) c = 0) := HE.out.symm
    obtain ⟨w2, hrun2, hok2, hg2⟩ := H2.out.store HK.out (by unfold maxLen; omega) HO.out
    have HRun2 : Hid ((Instr.mapUpdate 62 (.map (some b)) (.agg (arr k)) (.agg #[.slice ao n cap])).run Try.prog w1 = .ok () w2) := hrun2
    have HG3 : Hid (w.grownBy w2 (some b)) := grown_trans HG2.out hg2
    have HM : Hid (MapOk w2 base b (insK L k (addL (coefK L k) c))) := hok2
    clear hrun2 hok2 hg2
    obtain ⟨N, hN⟩ : ∃ N, N = (insK L k (addL (coefK L k) c)).length := ⟨_, rfl⟩
    have HN : Hid (N = (insK L k (addL (coefK L k) c)).length) := hN
    have HLen : Hid (∀ ty, (Builtin.len_ #[62] ty #[.map (some b)]).run Try.prog w2 = .ok (.int .i64 (N : Int)) w2) := by
      intro ty
      rw [hN]
      exact HM.out.len ty
    clear hN
    go_wp2_with (first
      | (refine wpList_load_row rfl _ _ rfl w.heap.size rfl _ _ _ _ HA.out under_arr rfl (by rw [info_arr, arr_size, hl512]) ?_)
      | (at_mapUpdate; refine wpList_mapUpdate_run rfl _ _ _ _ rfl _ _ _ rfl rfl rfl HRun2.out ?_))
    rw [HLen.out]
    have hNm : N ≤ 9223372036854775807 := by
      have := length_insK (k := k) (c := addL (coefK L k) c) H2.out.rising
      rw [← HN.out] at this
      split at this <;> omega
    by_cases hN6 : N ≤ 256
    · go_wp2
      go_ret
      refine ⟨ret1i ?_, ?_, HG3.out⟩
      · unfold putE; rw [if_pos HE'.out, if_pos (by rw [← HN.out]; exact hN6)]
      · unfold putL; rw [if_pos HE'.out]; exact HM.out
    · go_wp2
      go_ret
      refine ⟨ret1i ?_, ?_, HG3.out⟩
      · unfold putE; rw [if_pos HE'.out, if_neg (by rw [← HN.out]; exact hN6)]
      · unfold putL; rw [if_pos HE'.out]; exact HM.out
  · have hb0 : (E != 0) = true := by rw [bne_iff_ne]; exact hE0
    go_wp2
    go_ret
    refine ⟨ret1i ?_, ?_, HG2.out⟩
    · unfold putE; rw [← HE.out, if_neg hE0]
    · unfold putL; rw [← HE.out, if_neg hE0]; exact H2.out

end Go.Proofs.Ytfifgmcjilkigaa
