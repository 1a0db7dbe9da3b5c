/- Texts of the proof, one behind the other. -/
import Derived.Test.YtlaenbdlgpepkaaGreatDoorOwn1
import Derived.Test.YtlaenbdlgpepkaaGreatDoorOwn3
import Derived.Sort.WalkB12
import Derived.Lib.SlicesMore
import Derived.Lib.Walk
import Derived.Deep.LoopGhost
import Derived.Deep.DeepAppendRoom
/- What Vars, and the law file's same, answer. -/
namespace Go.Proofs.YtlaenbdlgpepkaaGreatDoor
open Go.RowKit Go.Maps

/-- The codes below 0 of a row, each once, as they are met, behind those that were met. -/
def metA : List Int → List Int → List Int
  | m, [] => m
  | m, c :: r => if 0 ≤ c ∨ c ∈ m then metA m r else metA (m ++ [c]) r

def varsL (t : List Int) : List Int := (metA [] t).map fun c => -1 - c

theorem set_keyed : Keyed Tryz.prog 3 := int_keyed (q := .i64) (by kernel_rfl)
theorem under_set : Tryz.prog.underlying 98 = some (.map 3 99) := by kernel_rfl
theorem zero_unit (w : World) : (zeroValue 99).run Tryz.prog w = .ok (.agg #[]) w := by kernel_rfl

theorem key_int {c : Int} (h1 : -9223372036854775808 ≤ c) (h2 : c ≤ 9223372036854775807) : keyOf Tryz.prog 3 (.int .i64 c) = some (.int .i64 c) := by
  refine keyOf_int_mk (by kernel_rfl) ?_
  have e0 : IntKind.i64.min = -9223372036854775808 := by decide
  have e1 : IntKind.i64.max = 9223372036854775807 := by decide
  simp [Lit.wf, e0, e1]
  omega

theorem Is.range {w : World} {v : Value} {xs : List Int} (h : Is w v xs) : ZI xs := fun k x hk => by
  obtain ⟨ao, cap, rfl, _, _, hx⟩ := Row.flat h
  obtain ⟨_, _, y, _, hy, h1, h2, _⟩ := hx k (List.getElem?_eq_some_iff.1 hk).1
  rw [hk] at hy
  cases hy
  exact ⟨h1, h2⟩

theorem Is.flatI {w : World} {v : Value} {xs : List Int} (h : Is w v xs) : ∃ ao cap, v = .slice ao xs.length cap ∧ xs.length ≤ cap ∧ cap ≤ 9223372036854775807 ∧
    ∀ k : Nat, k < xs.length → ∃ g off x, ao = some ⟨g, off, none⟩ ∧ xs[k]? = some x ∧ w.cell? ⟨g, off + k, none⟩ = some (.int .i64 x) := by
  obtain ⟨ao, cap, rfl, h1, h2, hx⟩ := Row.flat h
  refine ⟨ao, cap, rfl, h1, by unfold maxLen at h2; omega, fun k hk => ?_⟩
  obtain ⟨g, off, x, rfl, hm, _, _, h3⟩ := hx k hk
  rw [Nat.mul_one] at h3
  exact ⟨g, off, x, rfl, hm, h3⟩

theorem drawn_below {w w' : World} {n : Nat} (h : w' = w.drewN n) : Below w.heap.size w w' := by rw [h]; exact below_drewN (Below.refl _ _) n

theorem cell_int_new (w : World) (x : Int) (j : Nat) (u : Value) (hj : [Value.int .i64 x][j]? = some u) : (w.alloc (.cells #[.int .i64 x] 3)).cell? ((⟨w.heap.size, 0, none⟩ : Addr).add j) = some u := by
  rw [Addr.add_lit, Nat.zero_add, cell_of_row _ _ _ _ _ _ (heap_alloc_new _ _)]
  simpa using hj

theorem own_notMap {w : World} {base n : Nat} {e : TypeId} {s b : Nat} {v : Value} {xs : List Value} {es : Array MapEntry} {clock : Nat} (h : w.ownsRow base e s v n xs) (hb : w.heap[b]? = some (.map es clock)) : v.ownBlock = none ∨ v.ownBlock ≠ some b := by
  rcases h.2 with ⟨rfl, _⟩ | ⟨g, cap, cur, rfl, _, hg, _⟩
  · exact .inl rfl
  · refine .inr ?_
    simp only [Value.ownBlock]
    intro e
    cases e
    rw [hg] at hb
    cases hb

/-- The row of numbers, behind a store into the map and the new element. -/
theorem vars_row {H : Type} {w wr w4 : World} {o o' : Obj} {n b : Nat} {R : Value → Option (DataW H × List MemPlace)} {D : DataW H} {x : Value} {zs : List Int} {kt : TypeId} (h : OwI wr w.heap.size x zs) (hm : wr.ownsMap Tryz.prog kt R b n D) (hg : (wr.alloc o).grownBy w4 (some b)) :
    OwI w4 w.heap.size x zs ∧ (w4.alloc o').ownsRow w.heap.size 3 1 x zs.length (zs.map I64) := by
  have hm2 := hm.alloc o
  obtain ⟨es, clock, hb, _⟩ := hm2
  have h2 := h.later (below_alloc o)
  have h3 := h2.kept hg (own_notMap h2.2 hb)
  exact ⟨h3, ownsRow_later h3.2 (below_alloc o')⟩

theorem vars_next {H : Type} {w wr w4 w5 : World} {o o' : Obj} {b : Nat} {D : DataW H} {x5 x4 : Value} {m : List Int} {x : Int} (hB : Below w.heap.size w wr) (h : OwI wr w.heap.size x4 (m.map fun c => -1 - c)) (hm : wr.ownsMap Tryz.prog 3 unitElem b m.length D) (hh : ∀ c : Int, Maps.has D (.int .i64 c) = decide (c ∈ m))
    (hg : (wr.alloc o).grownBy w4 (some b)) (hm4 : w4.ownsMap Tryz.prog 3 unitElem b (m.length + 1) (D.put (.int .i64 x) (.agg []))) (hown : w5.ownsRow w.heap.size 3 1 x5 ((m.map fun c => -1 - c).length + 1) ((m.map fun c => -1 - c).map I64 ++ [.int .i64 (-1 - x)])) (hgr : (w4.alloc o').grownBy w5 x4.ownBlock) (hz : -9223372036854775808 ≤ -1 - x ∧ -1 - x ≤ 9223372036854775807) (hb : w.heap.size ≤ b := by exact Nat.le_refl _) :
    Hid (OwI w5 w.heap.size x5 ((m ++ [x]).map fun c => -1 - c) ∧ w5.ownsMap Tryz.prog 3 unitElem b (m ++ [x]).length (D.put (.int .i64 x) (.agg [])) ∧ (∀ c : Int, Maps.has (D.put (.int .i64 x) (.agg [])) (.int .i64 c) = decide (c ∈ m ++ [x])) ∧ Below w.heap.size w w5) := by
  have hT := hm.tidy set_keyed
  have hK : WideAt.IsKeyLit (.int .i64 x) := set_keyed.key (key_int (by omega) (by omega))
  obtain ⟨h4, h4'⟩ := vars_row (o' := o') h hm hg
  obtain ⟨es, clock, hbm, _⟩ := hm4.alloc o'
  have b1 : Below w.heap.size w w4 := (below_step hB (below_alloc o)).grown hg (below_step hB (below_alloc o)).size (fun j hj => by cases hj; exact hb)
  have b2 : Below w.heap.size w (w4.alloc o') := below_step b1 (below_alloc o')
  refine ⟨⟨fun j z hj => ?_, ?_⟩, ?_, fun c => ?_, b2.grown hgr b2.size (fun j hj => own_blk h4' hj)⟩
  · rw [List.map_append] at hj
    by_cases hjl : j < (m.map fun c => -1 - c).length
    · rw [List.getElem?_append_left hjl] at hj
      exact h.1 j z hj
    · rw [List.getElem?_append_right (by omega)] at hj
      have e0 : j - (m.map fun c => -1 - c).length = 0 := by
        have := (List.getElem?_eq_some_iff.1 hj).1
        simp at this
        simp
        omega
      rw [e0] at hj
      simp at hj
      omega
  · rw [List.map_append, List.map_append, List.length_append]
    exact hown
  · rw [List.length_append]
    refine (hm4.alloc o').kept hgr (fun e => ?_)
    rcases own_notMap h4' hbm with h0 | h0
    · rw [h0] at e
      cases e
    · exact h0 e.symm
  · by_cases e : c = x
    · subst e
      rw [has_put_same hT.isMap hK]
      simp
    · rw [has_put_other (by simpa using e), hh]
      simp [e]

set_option maxRecDepth 100000 in
set_option maxHeartbeats 1600000 in
theorem vars_any (v : Value) (t : List Int) (w : World) (h : Is w v t) (hb : t.length * 8 ≤ 140737488351232) :
    Calls Tryz.prog 23 #[v] w fun e w' => ∃ v', e = .returned v' ∧ OwI w' w.heap.size v' (varsL t) ∧ Below w.heap.size w w' := by
  obtain ⟨i1, hi1, hy0, hy1, hy2⟩ := info_parts info_int
  obtain ⟨ao, cap, rfl, hao, hca, q0⟩ := Row.flat h
  unfold maxLen at hca
  have HT : Hid (Is w (.slice ao t.length cap) t) := h
  clear h q0
  have hmm := @run_makeMap Tryz.prog
  go_enter Tryz.func23, Tryz.ntmps23
  go_wp2
  go_loopw [4, 12] (fun x i wr => ∃ (k : Nat) (m : List Int) (D : DataW Unit), k ≤ t.length ∧ i = .int .i64 k ∧ metA [] t = metA m (t.drop k) ∧ m.length ≤ k ∧ OwI wr w.heap.size x (m.map fun c => -1 - c) ∧ wr.ownsMap Tryz.prog 3 unitElem w.heap.size m.length D ∧ (∀ c : Int, Maps.has D (.int .i64 c) = decide (c ∈ m)) ∧ Below w.heap.size w wr) (fun _ i _ => t.length - (intOf i).toNat)
  case atStart => exact ⟨0, [], .map [], Nat.zero_le _, rfl, rfl, Nat.le_refl _, ⟨fun k x hk => (by simp at hk), World.ownsRow_nil _ _ _ _⟩, World.ownsMap_made w _ _ _, fun c => (by simp [Maps.has]), below_alloc _⟩
  case round =>
    obtain ⟨k, m, D, hk, rfl, hme, hml, how, hmap, hhas, hbl⟩ := hrel
    have HMe : Hid (metA [] t = metA m (t.drop k)) := hme
    have HOw : Hid (OwI wr w.heap.size u4 (m.map fun c => -1 - c)) := how
    have HMap : Hid (wr.ownsMap Tryz.prog 3 unitElem w.heap.size m.length D) := hmap
    have HHas : Hid (∀ c : Int, Maps.has D (.int .i64 c) = decide (c ∈ m)) := hhas
    have HB : Hid (Below w.heap.size w wr) := hbl
    clear hme how hmap hhas
    by_cases hlt : k < t.length
    · obtain ⟨g, off, x, rfl, hx1, hx2, hx3, hx4⟩ := (HT.out.kp (Kp.of_below hbl)).at hlt
      have hd : t.drop k = x :: t.drop (k + 1) := drop_get hx1
      have HD : Hid (t.drop k = x :: t.drop (k + 1)) := hd
      clear hx1 hd hbl
      by_cases hx0 : 0 ≤ x
      · have HN : Hid (metA [] t = metA m (t.drop (k + 1))) := by show _ = _; rw [HMe.out, HD.out, metA, if_pos (.inl hx0)]
        go_wp2
        go_roundw
        case rel => exact ⟨k + 1, m, D, by omega, by go_num, HN.out, by omega, HOw.out, HMap.out, HHas.out, HB.out⟩
        case measure => simp [intOf]; omega
      · have HKey : Hid (keyOf Tryz.prog 3 (.int .i64 x) = some (.int .i64 x)) := key_int hx3 hx4
        by_cases hin : x ∈ m
        · have HN : Hid (metA [] t = metA m (t.drop (k + 1))) := by show _ = _; rw [HMe.out, HD.out, metA, if_pos (.inr hin)]
          have hh : Maps.has D (.int .i64 x) = true := by rw [HHas.out, decide_eq_true hin]
          go_wp2_with (first
            | (at_lookup; refine wpList_lookup_own_unit _ rfl _ _ 98 rfl 3 99 set_keyed under_set (zero_unit _) w.heap.size m.length D rfl HMap.out _ _ rfl HKey.out ?_; rw [hh]))
          go_roundw
          case rel => exact ⟨k + 1, m, D, by omega, by go_num, HN.out, by omega, HOw.out.later (below_alloc _), HMap.out.alloc _, HHas.out, below_step HB.out (below_alloc _)⟩
          case measure => simp [intOf]; omega
        · have HN : Hid (metA [] t = metA (m ++ [x]) (t.drop (k + 1))) := by
            show _ = _
            rw [HMe.out, HD.out, metA, if_neg (fun hh => by rcases hh with hh | hh; exact hx0 hh; exact hin hh)]
          have hh : Maps.has D (.int .i64 x) = false := by rw [HHas.out, decide_eq_false hin]
          have hw : IntKind.i64.wrap (-1 - x) = -1 - x := IntWalk.i64_in _ ⟨by omega, by omega⟩
          have hml2 : m.length < maxLen := by unfold maxLen; omega
          have HZ : Hid (-9223372036854775808 ≤ -1 - x ∧ -1 - x ≤ 9223372036854775807) := ⟨by omega, by omega⟩
          go_wp2_with (first
            | (at_lookup; refine wpList_lookup_own_unit _ rfl _ _ 98 rfl 3 99 set_keyed under_set (zero_unit _) w.heap.size m.length D rfl HMap.out _ _ rfl HKey.out ?_; rw [hh])
            | (at_mapUpdate; refine wpList_mapUpdate_in _ rfl _ _ _ 98 rfl 3 99 set_keyed under_set unitElem w.heap.size m.length D rfl (HMap.out.alloc _) hml2 _ _ _ rfl rfl HKey.out (.agg []) [] unitElem_mk ?_; intro w4 hown4 hturn4; have HM4 : Hid (w4.ownsMap Tryz.prog 3 unitElem w.heap.size (m.length + 1) (D.put (.int .i64 x) (.agg []))) := hown4; have HG4 : Hid ((wr.alloc (.cells #[] 99)).grownBy w4 (some w.heap.size)) := hturn4.grown; clear hown4 hturn4)
            | (at_builtin; refine wpList_append_own _ rfl _ _ 30 rfl w.heap.size 3 i1 _ 1 8 under_ints hi1 hy0 hy1 hy2 rfl (by decide) u4 (m.map fun c => -1 - c).length ((m.map fun c => -1 - c).map I64) rfl (vars_row HOw.out HMap.out HG4.out).2 ⟨w4.heap.size, 0, none⟩ 1 1 [.int .i64 (-1 - x)] rfl rfl (cell_int_new _ _) (by intro u hu; simp at hu; subst hu; rfl) (by rw [List.length_map]; unfold maxLen; omega) (by rw [List.length_map]; omega) (Nat.le_trans (Nat.le_trans HB.out.size (below_alloc _).size) (Nat.le_trans HG4.out.size (below_alloc _).size)) ?_; intro v5 w5 hown5 hgrow5 _))
          have HFin := vars_next (H := Unit) (b := w.heap.size) HB.out HOw.out HMap.out HHas.out HG4.out HM4.out hown5 hgrow5 HZ.out
          clear hown5 hgrow5
          try go_wp2
          go_roundw
          case rel => exact ⟨k + 1, m ++ [x], _, by omega, by go_num, HN.out, by rw [List.length_append, List.length_singleton]; omega, HFin.out.1, HFin.out.2.1, HFin.out.2.2.1, HFin.out.2.2.2⟩
          case measure => simp [intOf]; omega
    · have hke : k = t.length := by omega
      have HF : Hid (varsL t = m.map fun c => -1 - c) := by show _ = _; unfold varsL; rw [HMe.out, List.drop_of_length_le (by omega)]; rfl
      clear hbl
      go_wp2
      go_ret
      exact ⟨_, rfl, by rw [HF.out]; exact HOw.out, HB.out⟩

end Go.Proofs.YtlaenbdlgpepkaaGreatDoor

/- What Check answers, of a row and of binds. -/
namespace Go.Proofs.YtlaenbdlgpepkaaGreatDoor
open Go.RowKit Go.Maps Go.BigFrame

theorem sigGo_ok : ∀ (sig : List Sy) (k : Nat) (r : List Sy), sigGo sig k r = 0 → ArOk r
  | _, _, [] => fun _ s hs => by cases hs
  | sig, k, s :: r => fun h => by
    unfold sigGo at h
    split at h
    · split at h
      · cases h
      · rename_i h2
        split at h
        · cases h
        · intro x hx
          cases hx with
          | head => omega
          | tail _ hx => exact sigGo_ok sig (k + 1) r h x hx
    · cases h

theorem sigE_ok {sig : List Sy} (h : sigE sig = 0) : ArOk sig := by
  unfold sigE at h
  split at h
  · cases h
  · exact sigGo_ok sig 0 sig h

theorem sigGo_range : ∀ (sig : List Sy) (k : Nat) (r : List Sy), 0 ≤ sigGo sig k r ∧ sigGo sig k r ≤ 37
  | _, _, [] => by unfold sigGo; omega
  | sig, k, s :: r => by
    have := sigGo_range sig (k + 1) r
    unfold sigGo
    split
    · split
      · omega
      · split <;> omega
    · omega

def termE (sig : List Sy) (t : List Int) : Int := if sigE sig = 0 then rowE sig t else sigE sig

set_option maxRecDepth 100000 in
set_option maxHeartbeats 800000 in
theorem check_any (sv v : Value) (sig : List Sy) (t : List Int) (w : World) (hs : Sg w sv sig) (h : Is w v t) (hT : Tabs w) (hb : t.length * 8 ≤ 140737488351232) :
    Calls Tryz.prog 45 #[sv, v] w fun e w' => e = .returned (.int .i64 (termE sig t)) ∧ Below w.heap.size w w' := by
  have HS : Hid (Sg w sv sig) := hs
  have HI : Hid (Is w v t) := h
  have HT : Hid (Tabs w) := hT
  clear hs h hT
  go_enter Tryz.func45, Tryz.ntmps45
  go_wp2_with fail
  refine (checkSig_any sv sig w HS.out HT.out).mono ?_
  rintro e w1 ⟨rfl, hb1⟩
  have HB : Hid (Below w.heap.size w w1) := hb1
  have HS1 : Hid (Sg w1 sv sig) := HS.out.kp (Kp.of_below hb1)
  have HI1 : Hid (Is w1 v t) := HI.out.kp (Kp.of_below hb1)
  clear hb1
  by_cases he : sigE sig = 0
  · have HA : Hid (ArOk sig) := sigE_ok he
    have HF : Hid (termE sig t = rowE sig t) := by show _ = _; unfold termE; rw [if_pos he]
    rw [he]
    clear he
    go_wp2_with fail
    refine (checkRow_any sv v sig t w1 HS1.out HI1.out HA.out hb).mono ?_
    rintro e w9 ⟨rfl, hw9⟩
    have hw8 := hw9.symm
    subst hw8
    clear hw9
    go_wp2
    go_ret
    exact ⟨ret1i HF.out.symm, HB.out⟩
  · have HF : Hid (termE sig t = sigE sig) := by show _ = _; unfold termE; rw [if_neg he]
    generalize sigE sig = E at he HF ⊢
    have heb : (E != 0) = true := by simpa using he
    go_wp2
    go_ret
    exact ⟨ret1i HF.out.symm, HB.out⟩

/-- A bind: a variable's number, and a row. -/
abbrev Bd := Int × List Int

def EB (w : World) (g o : Nat) (b : Bd) : Prop := -9223372036854775808 ≤ b.1 ∧ b.1 ≤ 9223372036854775807 ∧ b.2.length * 8 ≤ 140737488351232 ∧ w.cell? ⟨g, o, none⟩ = some (.int .i64 b.1) ∧ ∃ v, w.cell? ⟨g, o + 1, none⟩ = some v ∧ Is w v b.2

theorem EB.kp {w w' : World} (hk : Kp w w') (g o : Nat) (b : Bd) (h : EB w g o b) : EB w' g o b := by
  obtain ⟨h1, h2, h3, h4, v, h5, h6⟩ := h
  exact ⟨h1, h2, h3, hk.cell _ _ h4, v, hk.cell _ _ h5, h6.kp hk⟩

def Bs (w : World) (v : Value) (s : List Bd) : Prop := Row EB 2 w v s
theorem Bs.kp {w w' : World} {v : Value} {s : List Bd} (h : Bs w v s) (hk : Kp w w') : Bs w' v s := Row.imp h hk.size (EB.kp hk)

theorem Bs.at {w : World} {ao : Option Addr} {n cap : Nat} {s : List Bd} (h : Bs w (.slice ao n cap) s) {k : Nat} (hk : k < s.length) :
    ∃ g off x a t c, ao = some ⟨g, off, none⟩ ∧ s[k]? = some (x, t) ∧ w.cell? ⟨g, off + k * 2, none⟩ = some (.int .i64 x) ∧ w.cell? ⟨g, off + k * 2 + 1, none⟩ = some (.slice a t.length c) ∧ Is w (.slice a t.length c) t ∧ -9223372036854775808 ≤ x ∧ x ≤ 9223372036854775807 ∧ t.length * 8 ≤ 140737488351232 := by
  obtain ⟨ao', cap', hv, _, _, hx⟩ := Row.flat h
  simp only [Value.slice.injEq] at hv
  obtain ⟨rfl, rfl, rfl⟩ := hv
  obtain ⟨g, off, ⟨x, t⟩, rfl, hm, h1, h2, h3, h4, v, h5, h6⟩ := hx k hk
  obtain ⟨a, c, rfl, _⟩ := Row.flat h6
  exact ⟨g, off, x, a, t, c, rfl, hm, h4, h5, h6, h1, h2, h3⟩

/-- What is wrong with binds, from a place on. -/
def bindGo (sig : List Sy) : Option Int → List Bd → Int
  | _, [] => 0
  | p, b :: r => if isVarB b.1 then (if p.any (fun y => decide (b.1 ≤ y)) then 41 else if termE sig b.2 = 0 then bindGo sig (some b.1) r else termE sig b.2) else 40

def bindE (sig : List Sy) (s : List Bd) : Int := if sigE sig = 0 then bindGo sig none s else sigE sig

/-- The number of the bind ahead of a place. -/
def ahead (s : List Bd) : Nat → Option Int
  | 0 => none
  | k + 1 => (s[k]?).map (·.1)

set_option maxRecDepth 100000 in
set_option maxHeartbeats 1600000 in
theorem substCheck_any (sv bv : Value) (sig : List Sy) (s : List Bd) (w : World) (hs : Sg w sv sig) (h : Bs w bv s) (hT : Tabs w) :
    Calls Tryz.prog 136 #[sv, bv] w fun e w' => e = .returned (.int .i64 (bindE sig s)) ∧ Below w.heap.size w w' := by
  obtain ⟨so, sc, rfl, hso, hsc, _⟩ := Row.flat h
  unfold maxLen at hsc
  have HS : Hid (Sg w sv sig) := hs
  have HI : Hid (Bs w (.slice so s.length sc) s) := h
  have HT : Hid (Tabs w) := hT
  clear hs h hT
  go_enter Tryz.func136, Tryz.ntmps136
  go_wp2_with fail
  refine (checkSig_any sv sig w HS.out HT.out).mono ?_
  rintro e w1 ⟨rfl, hb1⟩
  have HB : Hid (Below w.heap.size w w1) := hb1
  clear hb1
  by_cases he : sigE sig = 0
  · have HF : Hid (bindE sig s = bindGo sig none s) := by show _ = _; unfold bindE; rw [if_pos he]
    rw [he]
    clear he
    go_wp2
    go_loopw [16] (fun i wr => ∃ k : Nat, k ≤ s.length ∧ i = .int .i64 k ∧ bindGo sig none s = bindGo sig (ahead s k) (s.drop k) ∧ Below w.heap.size w wr) (fun i _ => s.length - (intOf i).toNat)
    case atStart => exact ⟨0, Nat.zero_le _, rfl, rfl, HB.out⟩
    case round =>
      obtain ⟨k, hk, rfl, hgo, hbl⟩ := hrel
      have HG : Hid (bindE sig s = bindGo sig (ahead s k) (s.drop k)) := HF.out.trans hgo
      clear hgo
      by_cases hlt : k < s.length
      · have HSr : Hid (Sg wr sv sig) := HS.out.kp (Kp.of_below hbl)
        have HIr : Hid (Bs wr (.slice so s.length sc) s) := HI.out.kp (Kp.of_below hbl)
        have HTr : Hid (Tabs wr) := HT.out.below hbl
        obtain ⟨g, off, x, ba, t, bc, rfl, hm, hc0, hc1, hit, hx1, hx2, hx3⟩ := HIr.out.at hlt
        have HIt : Hid (Is wr (.slice ba t.length bc) t) := hit
        have HD : Hid (bindE sig s = if isVarB x then (if (ahead s k).any (fun y => decide (x ≤ y)) then 41 else if termE sig t = 0 then bindGo sig (some x) (s.drop (k + 1)) else termE sig t) else 40) := by
          show _ = _
          rw [HG.out, drop_get hm]
          rfl
        have HN : Hid (ahead s (k + 1) = some x) := by show (s[k]?).map (·.1) = _; rw [hm]; rfl
        have HBb : Hid (Below w.heap.size w (wr.alloc (.cells #[.int .i64 x, .slice ba t.length bc] 229))) := below_step hbl (below_alloc _)
        clear hm hit HG
        go_wp2_with fail
        refine (isVariable_any x _).mono ?_
        rintro e wb ⟨rfl, hw9⟩
        obtain ⟨hd0, hd1, hbw⟩ := box2 (w := wr) (x := .int .i64 x) (y := .slice ba t.length bc) (t := 229) (Below.refl _ _)
        rw [← hw9] at hd0 hd1 hbw HBb
        have HW : Hid (Below wr.heap.size wr wb) := hbw
        clear hw9 hbw hc0 hc1
        cases hv : isVarB x
        · have HE : Hid (bindE sig s = 40) := by show _ = _; rw [HD.out, hv]; rfl
          go_wp2
          go_ret
          exact ⟨ret1i HE.out.symm, HBb.out⟩
        have HD2 : Hid (bindE sig s = if (ahead s k).any (fun y => decide (x ≤ y)) then 41 else if termE sig t = 0 then bindGo sig (some x) (s.drop (k + 1)) else termE sig t) := by
          show _ = _; rw [HD.out, hv, if_pos rfl]
        clear HD hv
        by_cases hk0 : k = 0
        · subst hk0
          have HD3 : Hid (bindE sig s = if termE sig t = 0 then bindGo sig (some x) (s.drop 1) else termE sig t) := by show _ = _; rw [HD2.out]; rfl
          clear HD2
          go_wp2
          go_quiet (fail)
          have HBq : Hid (Below wr.heap.size wr (wb.drewN nq)) := below_drewN HW.out _
          go_wp2_with fail
          refine (check_any sv _ sig t _ (HSr.out.kp (Kp.of_below HBq.out)) (HIt.out.kp (Kp.of_below HBq.out)) (HTr.out.below HBq.out) hx3).mono ?_
          rintro e w2 ⟨rfl, hb2⟩
          have HB2 : Hid (Below w.heap.size w w2) := below_step hbl (below_step HBq.out hb2)
          clear hb2
          by_cases hte : termE sig t = 0
          · have HE : Hid (bindGo sig none s = bindGo sig (ahead s (0 + 1)) (s.drop (0 + 1))) := by show _ = _; rw [← HF.out, HD3.out, if_pos hte, HN.out]
            rw [hte]
            clear hte
            go_wp2
            go_roundw
            case rel => exact ⟨0 + 1, by omega, by go_num, HE.out, HB2.out⟩
            case measure => simp [intOf]; omega
          · have HE : Hid (bindE sig s = termE sig t) := by show _ = _; rw [HD3.out, if_neg hte]
            generalize termE sig t = E at hte HE ⊢
            have heb : (E != 0) = true := by simpa using hte
            go_wp2
            go_ret
            exact ⟨ret1i HE.out.symm, HB2.out⟩
        · obtain ⟨j, rfl⟩ : ∃ j, k = j + 1 := ⟨k - 1, by omega⟩
          clear hk0
          obtain ⟨g', off', y, ya, u, yc, hq, hm2, he0, he1, _, hy1, hy2, _⟩ := HIr.out.at (k := j) (by omega)
          obtain ⟨rfl, rfl⟩ : g = g' ∧ off = off' := by simpa using hq
          have HA : Hid (ahead s (j + 1) = some y) := by show (s[j]?).map (·.1) = _; rw [hm2]; rfl
          have hg0 : (0 : Int) < (j : Int) + 1 := by omega
          have hjl : j < s.length := by omega
          have hjw : IntKind.i64.wrap (j : Int) = (j : Int) := IntWalk.i64_in _ ⟨by omega, by omega⟩
          have hf0 := (Kp.of_below HW.out).cell _ _ he0
          clear hm2 hq he1 he0
          by_cases hxy : x ≤ y
          · have HE : Hid (bindE sig s = 41) := by show _ = _; rw [HD2.out, HA.out]; simp [hxy]
            go_wp2
            go_quiet (fail)
            go_wp2
            go_ret
            exact ⟨ret1i HE.out.symm, below_drewN HBb.out _⟩
          · have HD3 : Hid (bindE sig s = if termE sig t = 0 then bindGo sig (some x) (s.drop (j + 1 + 1)) else termE sig t) := by show _ = _; rw [HD2.out, HA.out]; simp [hxy]
            clear HD2
            go_wp2
            go_quiet (fail)
            have HBq : Hid (Below wr.heap.size wr (wb.drewN nq)) := below_drewN HW.out _
            go_wp2_with fail
            refine (check_any sv _ sig t _ (HSr.out.kp (Kp.of_below HBq.out)) (HIt.out.kp (Kp.of_below HBq.out)) (HTr.out.below HBq.out) hx3).mono ?_
            rintro e w2 ⟨rfl, hb2⟩
            have HB2 : Hid (Below w.heap.size w w2) := below_step hbl (below_step HBq.out hb2)
            clear hb2
            by_cases hte : termE sig t = 0
            · have HE : Hid (bindGo sig none s = bindGo sig (ahead s (j + 1 + 1)) (s.drop (j + 1 + 1))) := by show _ = _; rw [← HF.out, HD3.out, if_pos hte, HN.out]
              rw [hte]
              clear hte
              go_wp2
              go_roundw
              case rel => exact ⟨j + 1 + 1, by omega, by go_num, HE.out, HB2.out⟩
              case measure => simp [intOf]; omega
            · have HE : Hid (bindE sig s = termE sig t) := by show _ = _; rw [HD3.out, if_neg hte]
              generalize termE sig t = E at hte HE ⊢
              have heb : (E != 0) = true := by simpa using hte
              go_wp2
              go_ret
              exact ⟨ret1i HE.out.symm, HB2.out⟩
      · have hke : k = s.length := by omega
        subst hke
        have HE : Hid (bindE sig s = 0) := by show _ = _; rw [HG.out, List.drop_length]; rfl
        go_wp2
        go_ret
        exact ⟨ret1i HE.out.symm, hbl⟩
  · have HF : Hid (bindE sig s = sigE sig) := by show _ = _; unfold bindE; rw [if_neg he]
    generalize sigE sig = E at he HF ⊢
    have heb : (E != 0) = true := by simpa using he
    go_wp2
    go_ret
    exact ⟨ret1i HF.out.symm, HB.out⟩

end Go.Proofs.YtlaenbdlgpepkaaGreatDoor

/- Package interp's Strict. -/
namespace Go.Proofs.YtlaenbdlgpepkaaGreatDoor
open Go.RowKit Go.Maps Go.BigFrame

theorem inGo_ok {sig : List Sy} : ∀ {l : List Ip} {f : Nat → Bool}, inGo sig f l = 0 → ∀ x ∈ l, 0 ≤ x.1 ∧ x.1 < (sig.length : Int) ∧ checkE x.2 (arI sig x.1) ≠ 20 ∧ checkE x.2 (arI sig x.1) ≠ 2
  | [], _, _ => fun x hx => by cases hx
  | (c, p) :: r, f, h => by
    rw [inGo] at h
    split at h
    · cases h
    · rename_i h1
      split at h
      · cases h
      · rename_i h2
        split at h
        · cases h
        · rename_i h3
          intro x hx
          rcases List.mem_cons.1 hx with rfl | hx
          · exact ⟨Int.not_lt.1 (fun e => h1 (Or.inl e)), Int.not_le.1 (fun e => h1 (Or.inr (Or.inl e))), h2, h3⟩
          · exact inGo_ok h x hx

theorem inE_ok {sig : List Sy} {l : List Ip} (h : inE sig l = 0) : sigE sig = 0 ∧ ∀ x ∈ l, 0 ≤ x.1 ∧ x.1 < (sig.length : Int) ∧ checkE x.2 (arI sig x.1) ≠ 20 ∧ checkE x.2 (arI sig x.1) ≠ 2 := by
  unfold inE at h
  split at h
  · rename_i h0
    exact ⟨h0, inGo_ok h⟩
  · rename_i h0
    exact absurd h h0

/-- Whether one interpretation rises with each of its first n arguments. -/
def risB (n : Nat) (p : List Mn) : Bool := (List.range n).all fun v => p.any (alonB v)

/-- Whether all rise with each argument. -/
def allRis (sig : List Sy) (l : List Ip) : Bool := l.all fun x => risB (arI sig x.1).toNat x.2

/-- What Strict tells. -/
def strB (sig : List Sy) (l : List Ip) : Bool := decide (inE sig l = 0) && allRis sig l

theorem risB_no {n v : Nat} {p : List Mn} (hv : v < n) (h : p.any (alonB v) = false) : risB n p = false := by
  unfold risB
  rw [List.all_eq_false]
  exact ⟨v, List.mem_range.2 hv, by simp [h]⟩

theorem risB_yes {n : Nat} {p : List Mn} (h : ∀ v, v < n → p.any (alonB v) = true) : risB n p = true := by
  unfold risB
  rw [List.all_eq_true]
  exact fun v hv => h v (List.mem_range.1 hv)

theorem allRis_no {sig : List Sy} {l : List Ip} {x : Ip} (hx : x ∈ l) (h : risB (arI sig x.1).toNat x.2 = false) : allRis sig l = false := by
  unfold allRis
  rw [List.all_eq_false]
  exact ⟨x, hx, by simp [h]⟩

set_option maxRecDepth 100000 in
set_option maxHeartbeats 3200000 in
theorem strict_any (sv lv : Value) (sig : List Sy) (l : List Ip) (w : World) (hs : Sg w sv sig) (hl : Ins w lv l) (hT : Tabs w) :
    Calls Tryz.prog 13 #[sv, lv] w fun e w' => e = .returned (.bool (strB sig l)) ∧ Below w.heap.size w w' := by
  have HCk := hid (inCheck_any sv lv sig l w hs hl hT)
  obtain ⟨so, sc, rfl, hso, hsc, _⟩ := Row.flat hs
  obtain ⟨lo, lc, rfl, hlo, hlc, _⟩ := Row.flat hl
  unfold maxLen at hsc hlc
  have HS := hid hs
  have HL := hid hl
  clear hs hl hT
  go_enter Tryz.func13, Tryz.ntmps13
  go_wp2_with fail
  refine HCk.out.mono ?_
  rintro e w1 ⟨rfl, hb1⟩
  have B1 := hid hb1
  clear hb1 HCk
  by_cases hE : inE sig l = 0
  · have HR : Hid (strB sig l = allRis sig l) := by show _ = _; unfold strB; rw [decide_eq_true hE, Bool.true_and]
    have HOk := hid (inE_ok hE)
    have HAo : Hid (ArOk sig) := hid (sigE_ok HOk.out.1)
    rw [hE]
    clear hE
    go_wp2
    go_loopw [14] (fun x wr => ∃ k : Nat, k ≤ l.length ∧ x = .int .i64 k ∧ (∀ y ∈ l.take k, risB (arI sig y.1).toNat y.2 = true) ∧ Below w.heap.size w wr) (fun x _ => l.length - (intOf x).toNat)
    case atStart => exact ⟨0, Nat.zero_le _, rfl, fun y hy => by simp at hy, B1.out⟩
    case round =>
      clear B1
      obtain ⟨k, hk, rfl, hall, hbl⟩ := hrel
      have HA := hid hall
      have BL := hid hbl
      clear hall hbl
      by_cases hlt : k < l.length
      · obtain ⟨g, off, c, p, a1, c1, rfl, hm, hc0w, hc1w, hp, hcl, hcu, hp1, hp2⟩ := HL.out.at hlt
        have hmem : (c, p) ∈ l := List.mem_of_getElem? hm
        obtain ⟨ci, hci⟩ := Int.eq_ofNat_of_zero_le (HOk.out.2 _ hmem).1
        have hlt2 := (HOk.out.2 _ hmem).2.1
        simp only at hci hlt2
        subst hci
        have hcs : ci < sig.length := by omega
        obtain ⟨gs, os, sn, ar, rfl, hsm, _, hsa, hal, hau, _⟩ := HS.out.at hcs
        have har := HAo.out _ (List.mem_of_getElem? hsm)
        simp only at har
        obtain ⟨an, rfl⟩ := Int.eq_ofNat_of_zero_le har.1
        have han : an ≤ 1000 := by omega
        have HAr : Hid (arI sig (ci : Int) = (an : Int)) := by show _ = _; unfold arI; rw [Int.toNat_natCast, hsm]
        have HMem := hid hmem
        have HM := hid hm
        have HP := hid hp
        have hc0 := (Kp.of_below BL.out).cell _ _ hc0w
        have hc1 := (Kp.of_below BL.out).cell _ _ hc1w
        have hgw : g < wr.heap.size := World.block_lt_of_cell? _ _ hc0
        obtain ⟨W, hW⟩ : ∃ X, X = wr.alloc (.cells #[.int .i64 (ci : Int), .slice a1 p.length c1] 51) := ⟨_, rfl⟩
        have BW : Hid (Below wr.heap.size wr W) := by rw [hW]; exact below_alloc _
        have y0 : W.cell? ⟨wr.heap.size, 0, none⟩ = some (.int .i64 (ci : Int)) := by rw [hW, cell_of_row _ _ _ _ _ _ (heap_alloc_new _ _)]; rfl
        have Y1 : Hid (W.cell? ⟨wr.heap.size, 1, none⟩ = some (.slice a1 p.length c1)) := by show _ = _; rw [hW, cell_of_row _ _ _ _ _ _ (heap_alloc_new _ _)]; rfl
        have BLW := hid (below_step BL.out BW.out)
        have x2 := (Kp.of_below BLW.out).cell _ _ hsa
        clear hm hp hc0w hc1w hmem hsm hsa har hal hau
        go_upto_region 6 with fail
        rw [← hW]
        clear hW hc0 hc1
        generalize wr.heap.size = gb at y0 Y1 ⊢
        go_wp2
        clear y0 x2
        go_loopw [24] (fun x wr => ∃ j : Nat, j ≤ an ∧ x = .int .i64 j ∧ (∀ v, v < j → p.any (alonB v) = true) ∧ Below W.heap.size W wr) (fun x _ => an - (intOf x).toNat)
        case atStart => exact ⟨0, Nat.zero_le _, rfl, fun v hv => absurd hv (by omega), Below.refl _ _⟩
        case round =>
          obtain ⟨j, hj, rfl, hjs, hbj⟩ := hrel
          have HJ := hid hjs
          have BJ := hid hbj
          clear hjs hbj
          have BJw := hid (below_step BLW.out BJ.out)
          by_cases hja : j < an
          · have y1 := (Kp.of_below BJ.out).cell _ _ Y1.out
            go_wp2_with fail
            refine (risesAlone_any _ p j _ (HP.out.kp (Kp.of_below BJw.out)) (by omega)).mono ?_
            rintro e w5 ⟨rfl, hb5⟩
            have BN := hid (below_step BJ.out hb5)
            have BNw := hid (below_step BJw.out hb5)
            clear hb5 y1
            cases hx : p.any (alonB j) with
            | true =>
              have HJn : Hid (∀ v, v < j + 1 → p.any (alonB v) = true) := fun v hv => by
                rcases Nat.lt_succ_iff_lt_or_eq.1 hv with h | h
                · exact HJ.out v h
                · rw [h]; exact hx
              clear hx
              go_wp2
              go_roundw
              case rel => exact ⟨j + 1, hja, by go_num, HJn.out, BN.out⟩
              case measure => simp [intOf]; omega
            | false =>
              have HF : Hid (strB sig l = false) := by
                show _ = _
                rw [HR.out]
                exact allRis_no HMem.out (risB_no (v := j) (by simp only [HAr.out, Int.toNat_natCast]; exact hja) hx)
              clear hx
              go_wp2
              go_ret
              exact ⟨ret1b HF.out.symm, BNw.out⟩
          · obtain rfl : j = an := by omega
            have HAn : Hid (∀ y ∈ l.take (k + 1), risB (arI sig y.1).toNat y.2 = true) := fun y hy => by
              rw [take_get HM.out] at hy
              rcases List.mem_append.1 hy with h | h
              · exact HA.out y h
              · obtain rfl := List.mem_singleton.1 h
                exact risB_yes (fun v hv => HJ.out v (by simp only [HAr.out, Int.toNat_natCast] at hv; exact hv))
            go_wp2
            go_roundw
            case rel => exact ⟨k + 1, hlt, by go_num, HAn.out, BJw.out⟩
            case measure => simp [intOf]; omega
      · have HF : Hid (strB sig l = true) := by
          show _ = _
          rw [HR.out]
          unfold allRis
          rw [List.all_eq_true]
          intro y hy
          exact HA.out y (by rw [List.take_of_length_le (by omega)]; exact hy)
        go_wp2
        go_ret
        exact ⟨ret1b HF.out.symm, BL.out⟩
  · have HF : Hid (strB sig l = false) := by show _ = _; unfold strB; rw [decide_eq_false hE, Bool.false_and]
    have hne : (inE sig l != 0) = true := by rw [bne_iff_ne]; exact hE
    clear hE
    generalize inE sig l = z at hne ⊢
    go_wp2
    go_ret
    exact ⟨ret1b HF.out.symm, B1.out⟩

end Go.Proofs.YtlaenbdlgpepkaaGreatDoor

/- What the document's Check of layer 12 tells, plainly: the same. -/
namespace Go.Proofs.YtlaenbdlgpepkaaGreatDoor

/-- The document's Check, one by one; seen are those ahead. -/
def docIn (sig : List Sy) : List Int → List Ip → Int
  | seen, [] => if seen.length = sig.length then 0 else 120
  | seen, (c, p) :: r => if c < 0 ∨ (sig.length : Int) ≤ c then 120 else if c ∈ seen then 120 else if checkE p (arI sig c) = 2 then 2 else if checkE p (arI sig c) ≠ 0 then 121 else docIn sig (c :: seen) r

theorem checkE_three (p : List Mn) (n : Int) (hn : ¬ n < 0) : checkE p n = 0 ∨ checkE p n = 2 ∨ checkE p n = 20 := by
  unfold checkE
  rw [if_neg hn]
  split
  · simp
  · split <;> simp

theorem lack_len {seen : List Int} {n : Nat} (hd : seen.Nodup) (hr : ∀ x ∈ seen, 0 ≤ x ∧ x < (n : Int)) : lackB (fun i => decide ((i : Int) ∈ seen)) n = false ↔ seen.length = n := by
  have hl : seen.length ≤ n := by
    have h := List.Nodup.length_le_of_subset (l₂ := (List.range n).map (fun i : Nat => (i : Int))) hd (fun x hx => by
      obtain ⟨i, rfl⟩ := Int.eq_ofNat_of_zero_le (hr x hx).1
      exact List.mem_map.2 ⟨i, List.mem_range.2 (by have := (hr _ hx).2; omega), rfl⟩)
    simpa using h
  constructor
  · intro h
    have hn : ((List.range n).map (fun i : Nat => (i : Int))).Nodup := by
      rw [List.nodup_iff_pairwise_ne, List.pairwise_map]
      exact List.Pairwise.imp (fun {a b} h e => h (by omega)) (List.nodup_iff_pairwise_ne.1 List.nodup_range)
    have h2 := List.Nodup.length_le_of_subset (l₂ := seen) hn (fun x hx => by
      obtain ⟨i, hi, rfl⟩ := List.mem_map.1 hx
      simp only [lackB, List.any_eq_false, List.mem_range] at h
      have := h i (List.mem_range.1 hi)
      simpa using this)
    simp at h2
    omega
  · intro h
    refine lackB_no (fun i hi => ?_)
    by_cases hm : (i : Int) ∈ seen
    · simp [hm]
    · exfalso
      have h3 := List.Nodup.length_le_of_subset (l₁ := (i : Int) :: seen) (l₂ := (List.range n).map (fun i : Nat => (i : Int))) (List.nodup_cons.2 ⟨hm, hd⟩) (fun x hx => by
        rcases List.mem_cons.1 hx with rfl | hx
        · exact List.mem_map.2 ⟨i, List.mem_range.2 hi, rfl⟩
        · obtain ⟨j, rfl⟩ := Int.eq_ofNat_of_zero_le (hr x hx).1
          exact List.mem_map.2 ⟨j, List.mem_range.2 (by have := (hr _ hx).2; omega), rfl⟩)
      simp at h3
      omega

theorem gvn_seen {seen : List Int} {c : Nat} : gvn (fun i : Nat => decide ((i : Int) ∈ seen)) c = fun i : Nat => decide ((i : Int) ∈ ((c : Int) :: seen)) := by
  funext i
  unfold gvn
  by_cases h : i = c
  · subst h; simp
  · have : ¬ (i : Int) = (c : Int) := by omega
    simp [h, this]

theorem arI_ok {sig : List Sy} (ha : ArOk sig) (c : Int) : ¬ arI sig c < 0 := by
  unfold arI
  split
  · omega
  · rename_i s h
    have := (ha s (List.mem_of_getElem? h)).1
    omega

theorem docIn_in {sig : List Sy} (ha : ArOk sig) : ∀ {l : List Ip} {seen : List Int}, seen.Nodup → (∀ x ∈ seen, 0 ≤ x ∧ x < (sig.length : Int)) → docIn sig seen l = inGo sig (fun i => decide ((i : Int) ∈ seen)) l
  | [], seen, hd, hr => by
    rw [docIn, inGo]
    by_cases h : seen.length = sig.length
    · rw [if_pos h, (lack_len hd hr).2 h]; rfl
    · have h2 : lackB (fun i => decide ((i : Int) ∈ seen)) sig.length = true := by
        rw [← Bool.not_eq_false]
        exact fun e => h ((lack_len hd hr).1 e)
      rw [if_neg h, h2]; rfl
  | (c, p) :: r, seen, hd, hr => by
    rw [docIn, inGo]
    by_cases h1 : c < 0 ∨ (sig.length : Int) ≤ c
    · rw [if_pos h1, if_pos (by rcases h1 with h | h; exact Or.inl h; exact Or.inr (Or.inl h))]
    · have h0 : 0 ≤ c := Int.not_lt.1 (fun e => h1 (Or.inl e))
      have hb : c < (sig.length : Int) := Int.not_le.1 (fun e => h1 (Or.inr e))
      obtain ⟨ci, rfl⟩ := Int.eq_ofNat_of_zero_le h0
      rw [if_neg h1]
      by_cases hm : (ci : Int) ∈ seen
      · rw [if_pos hm, if_pos (Or.inr (Or.inr (by simp [hm])))]
      · have h4 : ¬ ((ci : Int) < 0 ∨ (sig.length : Int) ≤ (ci : Int) ∨ (fun i : Nat => decide ((i : Int) ∈ seen)) (ci : Int).toNat = true) := by
          rintro (h | h | h)
          · exact h1 (Or.inl h)
          · exact h1 (Or.inr h)
          · exact hm (by simpa using h)
        rw [if_neg hm, if_neg h4, Int.toNat_natCast, gvn_seen]
        rw [docIn_in ha (seen := (ci : Int) :: seen) (List.nodup_cons.2 ⟨hm, hd⟩) (fun x hx => by
          rcases List.mem_cons.1 hx with rfl | hx
          · exact ⟨h0, hb⟩
          · exact hr x hx)]
        rcases checkE_three p (arI sig (ci : Int)) (arI_ok ha _) with h | h | h <;> rw [h] <;> rfl

end Go.Proofs.YtlaenbdlgpepkaaGreatDoor

/- Rows of trees: cloned, turned round. -/
namespace Go.Proofs.YtlaenbdlgpepkaaGreatDoor
open Go.RowKit Go.Maps

theorem info_tree : (Tryz.prog.info? 104).map (fun i => (i.zero, i.size, i.bytes)) = some (some .nilIface, 1, 16) := by kernel_rfl
theorem under_trees : Tryz.prog.underlying 147 = some (.slice 104) := by kernel_rfl

section
variable {P : Program} {w w' : World} {ops : Array Oper} {rest : List Oper} {o : Oper} {a : Act} {Q : Exit → Act → World → Prop}

theorem wpList_append_runT (hg : o.guard = none) (s x : Operand) (t : TypeId) (ho : o.op = .call { callee := .builtin .append, args := #[s, x], argTypes := #[t, t] }) (v u : Value) {v' : Value} (hs : a.eval s = v) (hx : a.eval x = u)
    (hr : (Builtin.append_ #[t, t] o.type #[v, u]).run P w = .ok v' w') (h : wpList P ops Q rest (a.put o.dst v') w') : wpList P ops Q (o :: rest) a w := by
  refine wpList_plain hg fun K' hK' => ?_
  unfold Oper.wp
  simp [execOp, ho, resolve, invoke, builtin, hs, hx, hr, Result.andThen]
  exact hK' _ _ h

end

/-- A slice that is read, by its values. -/
def RdV (w : World) (v : Value) (vals : List Value) : Prop :=
  (v = .slice none 0 0 ∧ vals = []) ∨ ∃ g off cap, v = .slice (some ⟨g, off, none⟩) vals.length cap ∧ ∀ (j : Nat) (u : Value), vals[j]? = some u → w.cell? ⟨g, off + j, none⟩ = some u

set_option maxRecDepth 100000 in
set_option maxHeartbeats 800000 in
theorem cloneT_any (v : Value) (vals : List Value) (w : World) (h : RdV w v vals) (h1 : ∀ u ∈ vals, u.oneCell' = true) (hl : vals.length * 16 ≤ 140737488355328) :
    Calls Tryz.prog 111 #[v] w fun e w' => ∃ v', e = .returned v' ∧ w'.ownsRow w.heap.size 104 1 v' vals.length vals ∧ Below w.heap.size w w' := by
  obtain ⟨i0, hi, hz0, hz1, hz2⟩ := info_parts info_tree
  have hq : ∀ (W : World) (a : Option Addr) (n c n' c' : Nat), (binOp .eql 147 (.slice a n c) (.slice none n' c')).run Tryz.prog W = .ok (.bool a.isNone) W := fun W a n c n' c' => Lib.run_eql_slice_nil W _ _ a n c n' c' under_trees
  rcases h with ⟨rfl, rfl⟩ | ⟨g, off, cap, rfl, hc⟩
  · go_enter Tryz.func111, Tryz.ntmps111
    go_wp2
    go_ret
    exact ⟨_, rfl, World.ownsRow_nil _ _ _ _, Below.refl _ _⟩
  · obtain ⟨v', w', hr, ho, hb⟩ : ∃ v' w', (Builtin.append_ #[147, 147] 147 #[.slice (some ⟨w.heap.size, 0, none⟩) 0 0, .slice (some ⟨g, off, none⟩) vals.length cap]).run Tryz.prog (w.alloc (.cells #[] 104)) = .ok v' w' ∧ w'.ownsRow w.heap.size 104 1 v' vals.length vals ∧ Below w.heap.size w w' := by
      by_cases h0 : vals.length = 0
      · obtain rfl : vals = [] := List.eq_nil_of_length_eq_zero h0
        exact ⟨_, _, run_append_nothing _ 147 147 147 104 i0 under_trees hi _ 0 0 (Nat.le_refl _) _ (Src.ofSlice _ under_trees _ 0 _ [] (by simp) (fun j u hj => (by simp at hj)) (fun u hu => (by simp at hu))), empty_row _ (Nat.le_refl _), below_alloc _⟩
      · obtain ⟨v', w', hr, h2, h3, _, _⟩ := run_append_own_at (P := Tryz.prog) (w.alloc (.cells #[] 104)) w.heap.size 147 147 104 i0 _ 1 16 under_trees hi hz0 hz1 hz2 rfl (by decide) _ 0 [] (empty_row _ (Nat.le_refl _)) ⟨g, off, none⟩ vals.length cap vals (by simp)
          (fun j u hj => by rw [Addr.add_lit]; exact (Kp.of_below (below_alloc _)).cell _ _ (hc j u hj)) h1 (by unfold maxLen; omega) (by omega) (below_alloc _).size
        rw [Nat.zero_add, List.nil_append] at h2
        exact ⟨v', w', hr, h2, grown_below (below_alloc _) h3 (Nat.le_refl _)⟩
    have HR := hid hr
    have HO := hid ho
    have HB := hid hb
    clear hr ho hb hc
    go_enter Tryz.func111, Tryz.ntmps111
    go_wp2_with (first
      | (at_builtin; refine wpList_append_runT rfl _ _ _ rfl _ _ rfl rfl HR.out ?_))
    go_ret
    exact ⟨_, rfl, HO.out, HB.out⟩

theorem drawn_below1 (w : World) : Below w.heap.size w w.drew := (Below.refl _ _).drew

theorem set_grownT (w : World) (g k : Nat) (u : Value) : w.grownBy (w.setCell ⟨g, k, none⟩ u) (some g) :=
  ⟨rfl, rfl, rfl, by simp [World.setCell], fun i _ hne => heap_setCell_other _ _ _ _ (by intro e; subst e; exact hne rfl)⟩

/-- A value of an interface. -/
def IfV (u : Value) : Prop := ∃ t x, u = .iface t x

theorem swp_mem {d : Array Value} {i j : Nat} (hi : i < d.size) (hj : j < d.size) {u : Value} (h : u ∈ (Sort.swp d i j).toList) : u ∈ d.toList := by
  unfold Sort.swp at h
  simp only [Array.toList_setIfInBounds] at h
  rcases List.mem_or_eq_of_mem_set h with h | h
  · rcases List.mem_or_eq_of_mem_set h with h | h
    · exact h
    · rw [h, getElem!_pos d j hj]; exact Array.getElem_mem_toList hj
  · rw [h, getElem!_pos d i hi]; exact Array.getElem_mem_toList hi

theorem swp_list {d : Array Value} {i j : Nat} (hi : i < d.size) (hj : j < d.size) : (Sort.swp d i j).toList = (d.toList.set i d[j]!).set j d[i]! := by
  unfold Sort.swp
  simp [getElem!_pos, hi, hj]

set_option maxRecDepth 1000000 in
set_option maxHeartbeats 1600000 in
theorem reverseT_any (v : Value) (vals : List Value) (base : Nat) (w : World) (h : w.ownsRow base 104 1 v vals.length vals) (hif : ∀ u ∈ vals, IfV u) :
    Calls Tryz.prog 112 #[v] w fun e w' => e = .returned (.tuple #[]) ∧ w'.ownsRow base 104 1 v vals.length vals.reverse ∧ w.grownBy w' v.ownBlock := by
  have hsh : ∃ ao cap, v = .slice ao vals.length cap ∧ vals.length ≤ cap ∧ cap ≤ maxLen := by
    rcases h.2 with ⟨rfl, hn⟩ | ⟨g, cap, cur, rfl, hb, hg, hc, hm, hs, ht⟩
    · exact ⟨none, 0, by rw [hn], by omega, by simp [maxLen]⟩
    · exact ⟨_, cap, rfl, hc, hm⟩
  obtain ⟨ao, cap, rfl, hc1, hc2⟩ := hsh
  unfold maxLen at hc2
  have HV := hid h
  have HIf := hid hif
  clear h hif
  have mixed : Tryz.prog.follows .mixedOrders = true := by kernel_rfl
  go_enter Tryz.func112, Tryz.ntmps112
  go_wp2
  go_loopg [2, 3] vals.length (fun k s2 s3 wr => ∃ (i jn : Nat) (jz : Int) (dk : Array Value), s2 = .int .i64 i ∧ s3 = .int .i64 jz ∧ ((i : Int) < jz → jz = jn ∧ jn < vals.length) ∧ (¬ (i : Int) < jz → ¬ i < jn) ∧ jn - i ≤ k ∧
    dk.size = vals.length ∧ (∀ u ∈ dk.toList, IfV u) ∧ wr.ownsRow base 104 1 (.slice ao vals.length cap) vals.length dk.toList ∧ w.grownBy wr (Value.slice ao vals.length cap).ownBlock ∧ Sort.reverseLoop i jn dk = Sort.reverseLoop 0 (vals.length - 1) vals.toArray)
  case atStart => exact ⟨0, vals.length - 1, (vals.length : Int) - 1, vals.toArray, rfl, rfl, fun h => ⟨by omega, by omega⟩, fun h => by omega, by omega, by simp, HIf.out, HV.out, World.grownBy.refl _ _, rfl⟩
  case round =>
    obtain ⟨i, jn, jz, dk, rfl, rfl, h1, h2, hk, hds, hifd, how, hgr, heq⟩ := hrel
    by_cases hlt : (i : Int) < jz
    · obtain ⟨rfl, hjn⟩ := h1 hlt
      have hij : i < jn := by omega
      obtain ⟨g, cp, hv⟩ := own_form (v := .slice ao vals.length cap) how (by omega)
      simp only [Value.slice.injEq] at hv
      obtain ⟨rfl, _, rfl⟩ := hv
      have ci : wr.cell? ⟨g, i, none⟩ = some dk[i]! := by
        rw [World.ownsRow.cellAt how i (by omega)]
        simp [getElem!_pos, show i < dk.size by omega]
      have cj : wr.cell? ⟨g, jn, none⟩ = some dk[jn]! := by
        rw [World.ownsRow.cellAt how jn (by omega)]
        simp [getElem!_pos, show jn < dk.size by omega]
      have fi := World.ownsRow.frozenAt how i
      have fj := World.ownsRow.frozenAt how jn
      have HOw := hid how
      have HGr := hid hgr
      have HEq := hid heq
      have hil : i < vals.length := by omega
      obtain ⟨xi, hxi⟩ : ∃ x, x = dk[i]! := ⟨_, rfl⟩
      obtain ⟨xj, hxj⟩ : ∃ x, x = dk[jn]! := ⟨_, rfl⟩
      rw [← hxi] at ci
      rw [← hxj] at cj
      obtain ⟨ti, yi, hyi⟩ : IfV xi := by rw [hxi, getElem!_pos dk i (by omega)]; exact hifd _ (Array.getElem_mem_toList (by omega))
      obtain ⟨tj, yj, hyj⟩ : IfV xj := by rw [hxj, getElem!_pos dk jn (by omega)]; exact hifd _ (Array.getElem_mem_toList (by omega))
      subst hyi
      subst hyj
      have HXi := hid hxi
      have HXj := hid hxj
      have HIf2 : Hid (∀ u ∈ (Sort.swp dk i jn).toList, IfV u) := fun u hu => hifd u (swp_mem (by omega) (by omega) hu)
      clear hifd
      clear how hgr heq hxi hxj h1 h2
      have hst := (World.ownsRow.stored HOw.out i (.iface tj yj)).1
      have hst2 := (World.ownsRow.stored hst jn (.iface ti yi)).1
      have HS2 : Hid (((wr.setCell ⟨g, i, none⟩ (.iface tj yj)).setCell ⟨g, jn, none⟩ (.iface ti yi)).drew.ownsRow base 104 1 (.slice (some ⟨g, 0, none⟩) vals.length cap) vals.length (Sort.swp dk i jn).toList) := by
        rw [swp_list (by omega) (by omega), ← HXi.out, ← HXj.out]
        exact ownsRow_later hst2 (drawn_below1 _)
      have HG2 : Hid (w.grownBy ((wr.setCell ⟨g, i, none⟩ (.iface tj yj)).setCell ⟨g, jn, none⟩ (.iface ti yi)).drew (some g)) :=
        grown_trans HGr.out (grown_trans (set_grownT wr g i (.iface tj yj)) (grown_trans (set_grownT _ g jn (.iface ti yi)) (grown_of_below (drawn_below1 _) _)))
      clear hst hst2
      go_wp2_with fail
      go_region_o
      go_wp2
      go_roundg (jn - 1 - (i + 1))
      case measure => omega
      case rel =>
        have h9 := HEq.out
        rw [Sort.reverseLoop, if_pos hij] at h9
        exact ⟨i + 1, jn - 1, (jn : Int) - 1, Sort.swp dk i jn, by simp, rfl, fun h => ⟨by omega, by omega⟩, fun h => by omega, Nat.le_refl _, by rw [Sort.size_swp]; exact hds, HIf2.out, HS2.out, HG2.out, h9⟩
    · have hnot := h2 hlt
      have HR : Hid (dk.toList = vals.reverse) := by
        show _ = _
        rw [Sort.reverseLoop, if_neg hnot] at heq
        have h9 := Lib.reverseLoop_reverse vals.toArray
        rw [show vals.toArray.size = vals.length by simp] at h9
        rw [heq, h9]
        simp
      have HOw := hid how
      have HGr := hid hgr
      clear how hgr heq
      go_wp2
      go_end0
      exact ⟨rfl, by rw [← HR.out]; exact HOw.out, HGr.out⟩

end Go.Proofs.YtlaenbdlgpepkaaGreatDoor

/- Trees in memory; apply. -/
namespace Go.Proofs.YtlaenbdlgpepkaaGreatDoor
open Go.RowKit Go.Maps

/-- A term as a tree, without its symbols. -/
inductive Tr where
  | var : Tr
  | app : List Tr → Tr

mutual
def Tr.size : Tr → Nat
  | .var => 1
  | .app ts => 1 + sizes ts
def sizes : List Tr → Nat
  | [] => 0
  | t :: ts => t.size + sizes ts
end

mutual
/-- The value v is the tree, read through blocks of A alone. -/
def TV (w : World) (A : Nat → Prop) : Value → Tr → Prop
  | v, .var => v = .iface 154 (.agg #[])
  | v, .app ts => ∃ b a cap, v = .iface 145 (.pointer (some ⟨b, 0, none⟩)) ∧ A b ∧ w.cell? ⟨b, 0, none⟩ = some (.slice a ts.length cap) ∧ w.cell? ⟨b, 1, none⟩ = some (.int .i64 ((1 + sizes ts : Nat) : Int)) ∧ ts.length ≤ cap ∧ cap ≤ maxLen ∧ (ts = [] ∨ ∃ g off, a = some ⟨g, off, none⟩ ∧ A g ∧ TVs w A g off ts)
def TVs (w : World) (A : Nat → Prop) (g : Nat) : Nat → List Tr → Prop
  | _, [] => True
  | o, t :: ts => (∃ v, w.cell? ⟨g, o, none⟩ = some v ∧ TV w A v t) ∧ TVs w A g (o + 1) ts
end

mutual
theorem TV.keep {w w' : World} {A A' : Nat → Prop} (hc : ∀ b o x, A b → w.cell? ⟨b, o, none⟩ = some x → w'.cell? ⟨b, o, none⟩ = some x) (hA : ∀ b, A b → A' b) : ∀ {v : Value} {t : Tr}, TV w A v t → TV w' A' v t
  | v, .var, h => by unfold TV at h ⊢; exact h
  | v, .app ts, h => by
    unfold TV at h ⊢
    obtain ⟨b, a, cap, h1, h2, h3, h4, h5, h6, h7⟩ := h
    refine ⟨b, a, cap, h1, hA b h2, hc b 0 _ h2 h3, hc b 1 _ h2 h4, h5, h6, ?_⟩
    rcases h7 with h7 | ⟨g, off, k1, k2, k3⟩
    · exact .inl h7
    · exact .inr ⟨g, off, k1, hA g k2, TVs.keep hc hA k2 k3⟩
theorem TVs.keep {w w' : World} {A A' : Nat → Prop} (hc : ∀ b o x, A b → w.cell? ⟨b, o, none⟩ = some x → w'.cell? ⟨b, o, none⟩ = some x) (hA : ∀ b, A b → A' b) : ∀ {g o : Nat} {ts : List Tr}, A g → TVs w A g o ts → TVs w' A' g o ts
  | g, o, [], _, _ => by unfold TVs; trivial
  | g, o, t :: ts, hg, h => by
    unfold TVs at h ⊢
    obtain ⟨⟨v, h1, h2⟩, h3⟩ := h
    exact ⟨⟨v, hc g o _ hg h1, TV.keep hc hA h2⟩, TVs.keep hc hA hg h3⟩
end

/-- Values that are trees. -/
def TVl (w : World) (A : Nat → Prop) : List Value → List Tr → Prop
  | [], [] => True
  | v :: vs, t :: ts => TV w A v t ∧ TVl w A vs ts
  | _, _ => False

theorem TVl.keep {w w' : World} {A A' : Nat → Prop} (hc : ∀ b o x, A b → w.cell? ⟨b, o, none⟩ = some x → w'.cell? ⟨b, o, none⟩ = some x) (hA : ∀ b, A b → A' b) : ∀ {vs : List Value} {ts : List Tr}, TVl w A vs ts → TVl w' A' vs ts
  | [], [], _ => trivial
  | _ :: _, _ :: _, ⟨h1, h2⟩ => ⟨h1.keep hc hA, TVl.keep hc hA h2⟩
  | [], _ :: _, h => h.elim
  | _ :: _, [], h => h.elim

theorem TVl.len {w : World} {A : Nat → Prop} : ∀ {vs : List Value} {ts : List Tr}, TVl w A vs ts → vs.length = ts.length
  | [], [], _ => rfl
  | _ :: _, _ :: _, ⟨_, h2⟩ => congrArg (· + 1) (TVl.len h2)
  | [], _ :: _, h => h.elim
  | _ :: _, [], h => h.elim

theorem TVl.get {w : World} {A : Nat → Prop} : ∀ {vs : List Value} {ts : List Tr} {k : Nat} {v : Value} {t : Tr}, TVl w A vs ts → vs[k]? = some v → ts[k]? = some t → TV w A v t
  | [], [], _, _, _, _, h, _ => by simp at h
  | v :: vs, t :: ts, 0, _, _, ⟨h1, _⟩, hv, ht => by simp at hv ht; subst hv; subst ht; exact h1
  | v :: vs, t :: ts, k + 1, _, _, ⟨_, h2⟩, hv, ht => TVl.get h2 (by simpa using hv) (by simpa using ht)
  | [], _ :: _, _, _, _, h, _, _ => h.elim
  | _ :: _, [], _, _, _, h, _, _ => h.elim

theorem TVl.app {w : World} {A : Nat → Prop} : ∀ {vs us : List Value} {ts rs : List Tr}, TVl w A vs ts → TVl w A us rs → TVl w A (vs ++ us) (ts ++ rs)
  | [], _, [], _, _, h => h
  | _ :: _, _, _ :: _, _, ⟨h1, h2⟩, h => ⟨h1, TVl.app h2 h⟩
  | [], _, _ :: _, _, h, _ => h.elim
  | _ :: _, _, [], _, h, _ => h.elim

theorem TVl.take {w : World} {A : Nat → Prop} : ∀ {vs : List Value} {ts : List Tr} (k : Nat), TVl w A vs ts → TVl w A (vs.take k) (ts.take k) ∧ TVl w A (vs.drop k) (ts.drop k)
  | [], [], k, _ => by simp [TVl]
  | _ :: _, _ :: _, 0, h => ⟨trivial, h⟩
  | _ :: _, _ :: _, k + 1, ⟨h1, h2⟩ => by
    obtain ⟨h3, h4⟩ := TVl.take k h2
    exact ⟨⟨h1, h3⟩, h4⟩
  | [], _ :: _, _, h => h.elim
  | _ :: _, [], _, h => h.elim

theorem TVl.rev {w : World} {A : Nat → Prop} : ∀ {vs : List Value} {ts : List Tr}, TVl w A vs ts → TVl w A vs.reverse ts.reverse
  | [], [], _ => trivial
  | _ :: _, _ :: _, ⟨h1, h2⟩ => by
    rw [List.reverse_cons, List.reverse_cons]
    exact TVl.app (TVl.rev h2) ⟨h1, trivial⟩
  | [], _ :: _, h => h.elim
  | _ :: _, [], h => h.elim

theorem TV.ifv {w : World} {A : Nat → Prop} {v : Value} {t : Tr} (h : TV w A v t) : IfV v := by
  cases t with
  | var => unfold TV at h; exact ⟨_, _, h⟩
  | app ts => unfold TV at h; obtain ⟨b, a, cap, h1, _⟩ := h; exact ⟨_, _, h1⟩

theorem TVl.ifv {w : World} {A : Nat → Prop} : ∀ {vs : List Value} {ts : List Tr}, TVl w A vs ts → ∀ u ∈ vs, IfV u
  | [], [], _, u, hu => by cases hu
  | v :: vs, t :: ts, ⟨h1, h2⟩, u, hu => by
    cases hu with
    | head => exact h1.ifv
    | tail _ hu => exact TVl.ifv h2 u hu
  | [], _ :: _, h, _, _ => h.elim
  | _ :: _, [], h, _, _ => h.elim

theorem IfV.one {u : Value} (h : IfV u) : u.oneCell' = true := by obtain ⟨t, x, rfl⟩ := h; rfl

theorem TVs_of_TVl {w : World} {A : Nat → Prop} {g : Nat} : ∀ {vs : List Value} {ts : List Tr} {o : Nat}, TVl w A vs ts → (∀ (j : Nat) (u : Value), vs[j]? = some u → w.cell? ⟨g, o + j, none⟩ = some u) → TVs w A g o ts
  | [], [], o, _, _ => by unfold TVs; trivial
  | v :: vs, t :: ts, o, ⟨h1, h2⟩, hc => by
    unfold TVs
    refine ⟨⟨v, hc 0 v rfl, h1⟩, TVs_of_TVl h2 fun j u hj => ?_⟩
    have := hc (j + 1) u (by simpa using hj)
    rw [show o + 1 + j = o + (j + 1) by omega]
    exact this
  | [], _ :: _, _, h, _ => h.elim
  | _ :: _, [], _, h, _ => h.elim

theorem varNodes_any (w : World) : Calls Tryz.prog 238 #[.agg #[]] w fun e w' => e = .returned (.int .i64 1) ∧ Below w.heap.size w w' := by
  go_enter Tryz.func238, Tryz.ntmps238
  go_wp2
  go_ret
  exact ⟨rfl, below_alloc _⟩

theorem appNodes_any (b : Nat) (n : Int) (w : World) (h : w.cell? ⟨b, 1, none⟩ = some (.int .i64 n)) : Calls Tryz.prog 237 #[.pointer (some ⟨b, 0, none⟩)] w fun e w' => e = .returned (.int .i64 n) ∧ w' = w := by
  go_enter Tryz.func237, Tryz.ntmps237
  go_wp2
  go_ret
  exact ⟨rfl, rfl⟩

theorem sizes_app : ∀ (a b : List Tr), sizes (a ++ b) = sizes a + sizes b
  | [], b => by simp [sizes]
  | t :: a, b => by simp only [List.cons_append, sizes, sizes_app a b]; omega

theorem sizes_take (ts : List Tr) (k : Nat) : sizes (ts.take k) ≤ sizes ts := by
  have := sizes_app (ts.take k) (ts.drop k)
  rw [List.take_append_drop] at this
  omega

theorem Tr.pos (t : Tr) : 1 ≤ t.size := by
  cases t <;> simp only [Tr.size] <;> omega

theorem len_sizes : ∀ ts : List Tr, ts.length ≤ sizes ts
  | [] => by simp [sizes]
  | t :: ts => by
    have := t.pos
    have := len_sizes ts
    simp only [List.length_cons, sizes]
    omega

theorem RdV.kp {w w' : World} {v : Value} {vals : List Value} (h : RdV w v vals) (hk : Kp w w') : RdV w' v vals := by
  rcases h with h | ⟨g, off, cap, h1, h2⟩
  · exact .inl h
  · exact .inr ⟨g, off, cap, h1, fun j u hj => hk.cell _ _ (h2 j u hj)⟩

theorem RdV.at {w : World} {ao : Option Addr} {n cap : Nat} {vals : List Value} (h : RdV w (.slice ao n cap) vals) {k : Nat} {u : Value} (hk : vals[k]? = some u) : ∃ g off, ao = some ⟨g, off, none⟩ ∧ w.cell? ⟨g, off + k, none⟩ = some u := by
  rcases h with ⟨_, rfl⟩ | ⟨g, off, cap', h1, h2⟩
  · simp at hk
  · simp only [Value.slice.injEq] at h1
    exact ⟨g, off, h1.1, h2 k u hk⟩

set_option maxRecDepth 100000 in
set_option maxHeartbeats 1600000 in
theorem applyT_any (v : Value) (vals : List Value) (ts : List Tr) (A : Nat → Prop) (w : World) (hr : RdV w v vals) (ht : TVl w A vals ts) (hA : ∀ b, A b → b < w.heap.size) (hs : sizes ts ≤ 4611686018427387904) :
    Calls Tryz.prog 113 #[v] w fun e w' => ∃ b, e = .returned (.iface 145 (.pointer (some ⟨b, 0, none⟩))) ∧ w.heap.size ≤ b ∧ w'.cell? ⟨b, 0, none⟩ = some v ∧ w'.cell? ⟨b, 1, none⟩ = some (.int .i64 ((1 + sizes ts : Nat) : Int)) ∧ Below w.heap.size w w' := by
  have hlen := ht.len
  have hsh : ∃ ao cap, v = .slice ao ts.length cap := by
    rcases hr with ⟨rfl, rfl⟩ | ⟨g, off, cap, rfl, _⟩
    · exact ⟨none, 0, by rw [← hlen]; rfl⟩
    · exact ⟨_, cap, by rw [hlen]⟩
  obtain ⟨ao, cap, rfl⟩ := hsh
  have HR := hid hr
  have HT := hid ht
  have HA := hid hA
  have hbig := len_sizes ts
  clear hr ht hA
  go_enter Tryz.func113, Tryz.ntmps113
  go_wp2
  go_loopw [3, 8] (fun sv iv wr => ∃ k : Nat, k ≤ ts.length ∧ iv = .int .i64 k ∧ sv = .int .i64 ((1 + sizes (ts.take k) : Nat) : Int) ∧ Below w.heap.size w wr) (fun _ iv _ => ts.length - (intOf iv).toNat)
  case atStart => exact ⟨0, Nat.zero_le _, rfl, by simp [sizes], Below.refl _ _⟩
  case round =>
    obtain ⟨k, hk, rfl, rfl, hbl⟩ := hrel
    have HBl := hid hbl
    by_cases hlt : k < ts.length
    · obtain ⟨u, hu⟩ : ∃ u, vals[k]? = some u := ⟨_, List.getElem?_eq_getElem (by omega)⟩
      obtain ⟨t, htk⟩ : ∃ t, ts[k]? = some t := ⟨_, List.getElem?_eq_getElem hlt⟩
      obtain ⟨g, off, rfl, hc⟩ := (HR.out.kp (Kp.of_below hbl)).at hu
      have htv := HT.out.get hu htk
      have hst := sizes_take ts (k + 1)
      have hsn : sizes (ts.take (k + 1)) = sizes (ts.take k) + t.size := by rw [take_get htk, sizes_app]; simp [sizes]
      have HSn := hid hsn
      obtain ⟨S, hS⟩ : ∃ S, S = sizes (ts.take k) := ⟨_, rfl⟩
      rw [← hS] at hsn HSn ⊢
      clear hS hu htk hbl
      cases t with
      | var =>
        unfold TV at htv
        subst htv
        simp only [Tr.size] at hsn HSn
        go_wp2_with fail
        refine (varNodes_any wr).mono ?_
        rintro e w2 ⟨rfl, hb2⟩
        have HB2 := hid (below_step HBl.out hb2)
        have hwr : IntKind.i64.wrap (((1 + S : Nat) : Int) + 1) = ((1 + (S + 1) : Nat) : Int) := by rw [IntWalk.i64_in _ ⟨by omega, by omega⟩]; omega
        clear hb2
        go_wp2
        go_roundw
        case rel => exact ⟨k + 1, by omega, by go_num, by rw [HSn.out]; exact congrArg (Value.int .i64) (by omega), HB2.out⟩
        case measure => simp [intOf]; omega
      | app rs =>
        unfold TV at htv
        obtain ⟨b, a, cp, rfl, hb, h3, h4, h5, h6, h7⟩ := htv
        have h4r := (HBl.out.cell (p := ⟨b, 1, none⟩) (HA.out b hb)).trans h4
        simp only [Tr.size] at hsn HSn
        have hwr : IntKind.i64.wrap (((1 + S : Nat) : Int) + ((1 + sizes rs : Nat) : Int)) = ((1 + (S + (1 + sizes rs)) : Nat) : Int) := by rw [IntWalk.i64_in _ ⟨by omega, by omega⟩]; omega
        clear h3 h7
        go_wp2_with fail
        refine (appNodes_any b _ wr h4r).mono ?_
        rintro e w2 ⟨rfl, hw2⟩
        have hw8 := hw2.symm
        subst hw8
        clear hw2
        go_wp2
        go_roundw
        case rel => exact ⟨k + 1, by omega, by go_num, by rw [HSn.out]; exact congrArg (Value.int .i64) (by omega), HBl.out⟩
        case measure => simp [intOf]; omega
    · have hke : k = ts.length := by omega
      subst hke
      rw [List.take_length]
      go_wp2
      go_ret
      exact ⟨_, rfl, hbl.size, by simp, by simp, below_step hbl (below_alloc _)⟩

end Go.Proofs.YtlaenbdlgpepkaaGreatDoor
