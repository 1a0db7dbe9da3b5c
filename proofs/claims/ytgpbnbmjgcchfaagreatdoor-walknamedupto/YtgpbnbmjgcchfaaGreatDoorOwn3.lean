/- Texts of the proof, one behind the other. -/
import Derived.Test.YtgpbnbmjgcchfaaGreatDoorOwn1
import Derived.Test.YtgpbnbmjgcchfaaGreatDoorOwn2
import Derived.Maps.Own
import Derived.Maps.OwnOps
import Derived.Maps.OwnSet
/- What Vars, and the law file's same, answer. -/
namespace Go.Proofs.YtgpbnbmjgcchfaaGreatDoor
open Go.RowKit Go.Maps

/-- The codes below 0 of a row, each once, as they are met, behind those that were met. -/
def metA : List Int → List Int → List Int
  | m, [] => m
  | m, c :: r => if 0 ≤ c ∨ c ∈ m then metA m r else metA (m ++ [c]) r

def varsL (t : List Int) : List Int := (metA [] t).map fun c => -1 - c

theorem set_keyed : Keyed Tryz.prog 3 := int_keyed (q := .i64) (by kernel_rfl)
theorem under_set : Tryz.prog.underlying 146 = some (.map 3 105) := by kernel_rfl
theorem zero_unit (w : World) : (zeroValue 105).run Tryz.prog w = .ok (.agg #[]) w := by kernel_rfl

theorem key_int {c : Int} (h1 : -9223372036854775808 ≤ c) (h2 : c ≤ 9223372036854775807) : keyOf Tryz.prog 3 (.int .i64 c) = some (.int .i64 c) := by
  refine keyOf_int_mk (by kernel_rfl) ?_
  have e0 : IntKind.i64.min = -9223372036854775808 := by decide
  have e1 : IntKind.i64.max = 9223372036854775807 := by decide
  simp [Lit.wf, e0, e1]
  omega

theorem Is.range {w : World} {v : Value} {xs : List Int} (h : Is w v xs) : ZI xs := fun k x hk => by
  obtain ⟨ao, cap, rfl, _, _, hx⟩ := Row.flat h
  obtain ⟨_, _, y, _, hy, h1, h2, _⟩ := hx k (List.getElem?_eq_some_iff.1 hk).1
  rw [hk] at hy
  cases hy
  exact ⟨h1, h2⟩

theorem Is.flatI {w : World} {v : Value} {xs : List Int} (h : Is w v xs) : ∃ ao cap, v = .slice ao xs.length cap ∧ xs.length ≤ cap ∧ cap ≤ 9223372036854775807 ∧
    ∀ k : Nat, k < xs.length → ∃ g off x, ao = some ⟨g, off, none⟩ ∧ xs[k]? = some x ∧ w.cell? ⟨g, off + k, none⟩ = some (.int .i64 x) := by
  obtain ⟨ao, cap, rfl, h1, h2, hx⟩ := Row.flat h
  refine ⟨ao, cap, rfl, h1, by unfold maxLen at h2; omega, fun k hk => ?_⟩
  obtain ⟨g, off, x, rfl, hm, _, _, h3⟩ := hx k hk
  rw [Nat.mul_one] at h3
  exact ⟨g, off, x, rfl, hm, h3⟩

theorem drawn_below {w w' : World} {n : Nat} (h : w' = w.drewN n) : Below w.heap.size w w' := by rw [h]; exact below_drewN (Below.refl _ _) n

theorem cell_int_new (w : World) (x : Int) (j : Nat) (u : Value) (hj : [Value.int .i64 x][j]? = some u) : (w.alloc (.cells #[.int .i64 x] 3)).cell? ((⟨w.heap.size, 0, none⟩ : Addr).add j) = some u := by
  rw [Addr.add_lit, Nat.zero_add, cell_of_row _ _ _ _ _ _ (heap_alloc_new _ _)]
  simpa using hj

theorem own_notMap {w : World} {base n : Nat} {e : TypeId} {s b : Nat} {v : Value} {xs : List Value} {es : Array MapEntry} {clock : Nat} (h : w.ownsRow base e s v n xs) (hb : w.heap[b]? = some (.map es clock)) : v.ownBlock = none ∨ v.ownBlock ≠ some b := by
  rcases h.2 with ⟨rfl, _⟩ | ⟨g, cap, cur, rfl, _, hg, _⟩
  · exact .inl rfl
  · refine .inr ?_
    simp only [Value.ownBlock]
    intro e
    cases e
    rw [hg] at hb
    cases hb

/-- The row of numbers, behind a store into the map and the new element. -/
theorem vars_row {H : Type} {w wr w4 : World} {o o' : Obj} {n b : Nat} {R : Value → Option (DataW H × List MemPlace)} {D : DataW H} {x : Value} {zs : List Int} {kt : TypeId} (h : OwI wr w.heap.size x zs) (hm : wr.ownsMap Tryz.prog kt R b n D) (hg : (wr.alloc o).grownBy w4 (some b)) :
    OwI w4 w.heap.size x zs ∧ (w4.alloc o').ownsRow w.heap.size 3 1 x zs.length (zs.map I64) := by
  have hm2 := hm.alloc o
  obtain ⟨es, clock, hb, _⟩ := hm2
  have h2 := h.later (below_alloc o)
  have h3 := h2.kept hg (own_notMap h2.2 hb)
  exact ⟨h3, ownsRow_later h3.2 (below_alloc o')⟩

theorem vars_next {H : Type} {w wr w4 w5 : World} {o o' : Obj} {b : Nat} {D : DataW H} {x5 x4 : Value} {m : List Int} {x : Int} (hB : Below w.heap.size w wr) (h : OwI wr w.heap.size x4 (m.map fun c => -1 - c)) (hm : wr.ownsMap Tryz.prog 3 unitElem b m.length D) (hh : ∀ c : Int, Maps.has D (.int .i64 c) = decide (c ∈ m))
    (hg : (wr.alloc o).grownBy w4 (some b)) (hm4 : w4.ownsMap Tryz.prog 3 unitElem b (m.length + 1) (D.put (.int .i64 x) (.agg []))) (hown : w5.ownsRow w.heap.size 3 1 x5 ((m.map fun c => -1 - c).length + 1) ((m.map fun c => -1 - c).map I64 ++ [.int .i64 (-1 - x)])) (hgr : (w4.alloc o').grownBy w5 x4.ownBlock) (hz : -9223372036854775808 ≤ -1 - x ∧ -1 - x ≤ 9223372036854775807) (hb : w.heap.size ≤ b := by exact Nat.le_refl _) :
    Hid (OwI w5 w.heap.size x5 ((m ++ [x]).map fun c => -1 - c) ∧ w5.ownsMap Tryz.prog 3 unitElem b (m ++ [x]).length (D.put (.int .i64 x) (.agg [])) ∧ (∀ c : Int, Maps.has (D.put (.int .i64 x) (.agg [])) (.int .i64 c) = decide (c ∈ m ++ [x])) ∧ Below w.heap.size w w5) := by
  have hT := hm.tidy set_keyed
  have hK : WideAt.IsKeyLit (.int .i64 x) := set_keyed.key (key_int (by omega) (by omega))
  obtain ⟨h4, h4'⟩ := vars_row (o' := o') h hm hg
  obtain ⟨es, clock, hbm, _⟩ := hm4.alloc o'
  have b1 : Below w.heap.size w w4 := (below_step hB (below_alloc o)).grown hg (below_step hB (below_alloc o)).size (fun j hj => by cases hj; exact hb)
  have b2 : Below w.heap.size w (w4.alloc o') := below_step b1 (below_alloc o')
  refine ⟨⟨fun j z hj => ?_, ?_⟩, ?_, fun c => ?_, b2.grown hgr b2.size (fun j hj => own_blk h4' hj)⟩
  · rw [List.map_append] at hj
    by_cases hjl : j < (m.map fun c => -1 - c).length
    · rw [List.getElem?_append_left hjl] at hj
      exact h.1 j z hj
    · rw [List.getElem?_append_right (by omega)] at hj
      have e0 : j - (m.map fun c => -1 - c).length = 0 := by
        have := (List.getElem?_eq_some_iff.1 hj).1
        simp at this
        simp
        omega
      rw [e0] at hj
      simp at hj
      omega
  · rw [List.map_append, List.map_append, List.length_append]
    exact hown
  · rw [List.length_append]
    refine (hm4.alloc o').kept hgr (fun e => ?_)
    rcases own_notMap h4' hbm with h0 | h0
    · rw [h0] at e
      cases e
    · exact h0 e.symm
  · by_cases e : c = x
    · subst e
      rw [has_put_same hT.isMap hK]
      simp
    · rw [has_put_other (by simpa using e), hh]
      simp [e]

set_option maxRecDepth 100000 in
set_option maxHeartbeats 1600000 in
theorem vars_any (v : Value) (t : List Int) (w : World) (h : Is w v t) (hb : t.length * 8 ≤ 140737488351232) :
    Calls Tryz.prog 72 #[v] w fun e w' => ∃ v', e = .returned v' ∧ OwI w' w.heap.size v' (varsL t) ∧ Below w.heap.size w w' := by
  obtain ⟨i1, hi1, hy0, hy1, hy2⟩ := info_parts info_int
  obtain ⟨ao, cap, rfl, hao, hca, q0⟩ := Row.flat h
  unfold maxLen at hca
  have HT : Hid (Is w (.slice ao t.length cap) t) := h
  clear h q0
  have hmm := @run_makeMap Tryz.prog
  go_enter Tryz.func72, Tryz.ntmps72
  go_wp2
  go_loopw [4, 12] (fun x i wr => ∃ (k : Nat) (m : List Int) (D : DataW Unit), k ≤ t.length ∧ i = .int .i64 k ∧ metA [] t = metA m (t.drop k) ∧ m.length ≤ k ∧ OwI wr w.heap.size x (m.map fun c => -1 - c) ∧ wr.ownsMap Tryz.prog 3 unitElem w.heap.size m.length D ∧ (∀ c : Int, Maps.has D (.int .i64 c) = decide (c ∈ m)) ∧ Below w.heap.size w wr) (fun _ i _ => t.length - (intOf i).toNat)
  case atStart => exact ⟨0, [], .map [], Nat.zero_le _, rfl, rfl, Nat.le_refl _, ⟨fun k x hk => (by simp at hk), World.ownsRow_nil _ _ _ _⟩, World.ownsMap_made w _ _ _, fun c => (by simp [Maps.has]), below_alloc _⟩
  case round =>
    obtain ⟨k, m, D, hk, rfl, hme, hml, how, hmap, hhas, hbl⟩ := hrel
    have HMe : Hid (metA [] t = metA m (t.drop k)) := hme
    have HOw : Hid (OwI wr w.heap.size u4 (m.map fun c => -1 - c)) := how
    have HMap : Hid (wr.ownsMap Tryz.prog 3 unitElem w.heap.size m.length D) := hmap
    have HHas : Hid (∀ c : Int, Maps.has D (.int .i64 c) = decide (c ∈ m)) := hhas
    have HB : Hid (Below w.heap.size w wr) := hbl
    clear hme how hmap hhas
    by_cases hlt : k < t.length
    · obtain ⟨g, off, x, rfl, hx1, hx2, hx3, hx4⟩ := (HT.out.kp (Kp.of_below hbl)).at hlt
      have hd : t.drop k = x :: t.drop (k + 1) := drop_get hx1
      have HD : Hid (t.drop k = x :: t.drop (k + 1)) := hd
      clear hx1 hd hbl
      by_cases hx0 : 0 ≤ x
      · have HN : Hid (metA [] t = metA m (t.drop (k + 1))) := by show _ = _; rw [HMe.out, HD.out, metA, if_pos (.inl hx0)]
        go_wp2
        go_roundw
        case rel => exact ⟨k + 1, m, D, by omega, by go_num, HN.out, by omega, HOw.out, HMap.out, HHas.out, HB.out⟩
        case measure => simp [intOf]; omega
      · have HKey : Hid (keyOf Tryz.prog 3 (.int .i64 x) = some (.int .i64 x)) := key_int hx3 hx4
        by_cases hin : x ∈ m
        · have HN : Hid (metA [] t = metA m (t.drop (k + 1))) := by show _ = _; rw [HMe.out, HD.out, metA, if_pos (.inr hin)]
          have hh : Maps.has D (.int .i64 x) = true := by rw [HHas.out, decide_eq_true hin]
          go_wp2_with (first
            | (at_lookup; refine wpList_lookup_own_unit _ rfl _ _ 146 rfl 3 105 set_keyed under_set (zero_unit _) w.heap.size m.length D rfl HMap.out _ _ rfl HKey.out ?_; rw [hh]))
          go_roundw
          case rel => exact ⟨k + 1, m, D, by omega, by go_num, HN.out, by omega, HOw.out.later (below_alloc _), HMap.out.alloc _, HHas.out, below_step HB.out (below_alloc _)⟩
          case measure => simp [intOf]; omega
        · have HN : Hid (metA [] t = metA (m ++ [x]) (t.drop (k + 1))) := by
            show _ = _
            rw [HMe.out, HD.out, metA, if_neg (fun hh => by rcases hh with hh | hh; exact hx0 hh; exact hin hh)]
          have hh : Maps.has D (.int .i64 x) = false := by rw [HHas.out, decide_eq_false hin]
          have hw : IntKind.i64.wrap (-1 - x) = -1 - x := IntWalk.i64_in _ ⟨by omega, by omega⟩
          have hml2 : m.length < maxLen := by unfold maxLen; omega
          have HZ : Hid (-9223372036854775808 ≤ -1 - x ∧ -1 - x ≤ 9223372036854775807) := ⟨by omega, by omega⟩
          go_wp2_with (first
            | (at_lookup; refine wpList_lookup_own_unit _ rfl _ _ 146 rfl 3 105 set_keyed under_set (zero_unit _) w.heap.size m.length D rfl HMap.out _ _ rfl HKey.out ?_; rw [hh])
            | (at_mapUpdate; refine wpList_mapUpdate_in _ rfl _ _ _ 146 rfl 3 105 set_keyed under_set unitElem w.heap.size m.length D rfl (HMap.out.alloc _) hml2 _ _ _ rfl rfl HKey.out (.agg []) [] unitElem_mk ?_; intro w4 hown4 hturn4; have HM4 : Hid (w4.ownsMap Tryz.prog 3 unitElem w.heap.size (m.length + 1) (D.put (.int .i64 x) (.agg []))) := hown4; have HG4 : Hid ((wr.alloc (.cells #[] 105)).grownBy w4 (some w.heap.size)) := hturn4.grown; clear hown4 hturn4)
            | (at_builtin; refine wpList_append_own _ rfl _ _ 26 rfl w.heap.size 3 i1 _ 1 8 under_ints hi1 hy0 hy1 hy2 rfl (by decide) u4 (m.map fun c => -1 - c).length ((m.map fun c => -1 - c).map I64) rfl (vars_row HOw.out HMap.out HG4.out).2 ⟨w4.heap.size, 0, none⟩ 1 1 [.int .i64 (-1 - x)] rfl rfl (cell_int_new _ _) (by intro u hu; simp at hu; subst hu; rfl) (by rw [List.length_map]; unfold maxLen; omega) (by rw [List.length_map]; omega) (Nat.le_trans (Nat.le_trans HB.out.size (below_alloc _).size) (Nat.le_trans HG4.out.size (below_alloc _).size)) ?_; intro v5 w5 hown5 hgrow5 _))
          have HFin := vars_next (H := Unit) (b := w.heap.size) HB.out HOw.out HMap.out HHas.out HG4.out HM4.out hown5 hgrow5 HZ.out
          clear hown5 hgrow5
          try go_wp2
          go_roundw
          case rel => exact ⟨k + 1, m ++ [x], _, by omega, by go_num, HN.out, by rw [List.length_append, List.length_singleton]; omega, HFin.out.1, HFin.out.2.1, HFin.out.2.2.1, HFin.out.2.2.2⟩
          case measure => simp [intOf]; omega
    · have hke : k = t.length := by omega
      have HF : Hid (varsL t = m.map fun c => -1 - c) := by show _ = _; unfold varsL; rw [HMe.out, List.drop_of_length_le (by omega)]; rfl
      clear hbl
      go_wp2
      go_ret
      exact ⟨_, rfl, by rw [HF.out]; exact HOw.out, HB.out⟩

end Go.Proofs.YtgpbnbmjgcchfaaGreatDoor

/- What Shift answers. -/
namespace Go.Proofs.YtgpbnbmjgcchfaaGreatDoor
open Go.RowKit Go.Maps

def isVarB (n : Int) : Bool := decide (0 ≤ n) && decide (n < 1048576)

theorem isVariable_any (n : Int) (w : World) : Calls Tryz.prog 74 #[.int .i64 n] w fun e w' => e = .returned (.bool (isVarB n)) ∧ w' = w := by
  go_enter Tryz.func74, Tryz.ntmps74
  by_cases h : 0 ≤ n
  · have HF : Hid (isVarB n = decide (n < 1048576)) := by show _ = _; unfold isVarB; rw [decide_eq_true h]; rfl
    go_wp2
    go_ret
    exact ⟨ret1b HF.out.symm, rfl⟩
  · have HF : Hid (isVarB n = false) := by show _ = _; unfold isVarB; rw [decide_eq_false h]; rfl
    go_wp2
    go_ret
    exact ⟨ret1b HF.out.symm, rfl⟩

/-- The variables of a row numbered by a function with a state. -/
def renG {σ : Type} (φ : σ → Int → Int × σ) : σ → List Int → List Int × σ
  | s, [] => ([], s)
  | s, c :: r => if c < 0 then (((-1 - (φ s (-1 - c)).1) :: (renG φ (φ s (-1 - c)).2 r).1), (renG φ (φ s (-1 - c)).2 r).2) else (c :: (renG φ s r).1, (renG φ s r).2)

theorem set_midI {α : Type} (a : List α) (x y : α) (b : List α) (k : Nat) (h : a.length = k) : (a ++ x :: b).set k y = a ++ y :: b := by
  subst h
  simp

theorem grown_set {w wr : World} {r : Option Nat} {g : Nat} (h : w.grownBy wr r) (hg : w.heap.size ≤ g) (k : Nat) (u : Value) : w.grownBy (wr.setCell ⟨g, k, none⟩ u) r :=
  ⟨h.os, h.tape, h.output, by simpa [World.setCell] using h.size, fun j hj hne => by
    rw [heap_setCell_other _ _ _ _ (show j ≠ g by omega)]
    exact h.block j hj hne⟩

theorem set_grown (w : World) (g k : Nat) (u : Value) : w.grownBy (w.setCell ⟨g, k, none⟩ u) (some g) :=
  ⟨rfl, rfl, rfl, by simp [World.setCell], fun j _ hne => heap_setCell_other _ _ _ _ (fun e => hne (by rw [e]))⟩

end Go.Proofs.YtgpbnbmjgcchfaaGreatDoor

/- What Check answers, of a row and of binds. -/
namespace Go.Proofs.YtgpbnbmjgcchfaaGreatDoor
open Go.RowKit Go.Maps Go.BigFrame

theorem sigGo_ok : ∀ (sig : List Sy) (k : Nat) (r : List Sy), sigGo sig k r = 0 → ArOk r
  | _, _, [] => fun _ s hs => by cases hs
  | sig, k, s :: r => fun h => by
    unfold sigGo at h
    split at h
    · split at h
      · cases h
      · rename_i h2
        split at h
        · cases h
        · intro x hx
          cases hx with
          | head => omega
          | tail _ hx => exact sigGo_ok sig (k + 1) r h x hx
    · cases h

theorem sigE_ok {sig : List Sy} (h : sigE sig = 0) : ArOk sig := by
  unfold sigE at h
  split at h
  · cases h
  · exact sigGo_ok sig 0 sig h

theorem sigGo_range : ∀ (sig : List Sy) (k : Nat) (r : List Sy), 0 ≤ sigGo sig k r ∧ sigGo sig k r ≤ 37
  | _, _, [] => by unfold sigGo; omega
  | sig, k, s :: r => by
    have := sigGo_range sig (k + 1) r
    unfold sigGo
    split
    · split
      · omega
      · split <;> omega
    · omega

def termE (sig : List Sy) (t : List Int) : Int := if sigE sig = 0 then rowE sig t else sigE sig

set_option maxRecDepth 100000 in
set_option maxHeartbeats 800000 in
theorem check_any (sv v : Value) (sig : List Sy) (t : List Int) (w : World) (hs : Sg w sv sig) (h : Is w v t) (hT : Tabs w) (hb : t.length * 8 ≤ 140737488351232) :
    Calls Tryz.prog 35 #[sv, v] w fun e w' => e = .returned (.int .i64 (termE sig t)) ∧ Below w.heap.size w w' := by
  have HS : Hid (Sg w sv sig) := hs
  have HI : Hid (Is w v t) := h
  have HT : Hid (Tabs w) := hT
  clear hs h hT
  go_enter Tryz.func35, Tryz.ntmps35
  go_wp2_with fail
  refine (checkSig_any sv sig w HS.out HT.out).mono ?_
  rintro e w1 ⟨rfl, hb1⟩
  have HB : Hid (Below w.heap.size w w1) := hb1
  have HS1 : Hid (Sg w1 sv sig) := HS.out.kp (Kp.of_below hb1)
  have HI1 : Hid (Is w1 v t) := HI.out.kp (Kp.of_below hb1)
  clear hb1
  by_cases he : sigE sig = 0
  · have HA : Hid (ArOk sig) := sigE_ok he
    have HF : Hid (termE sig t = rowE sig t) := by show _ = _; unfold termE; rw [if_pos he]
    rw [he]
    clear he
    go_wp2_with fail
    refine (checkRow_any sv v sig t w1 HS1.out HI1.out HA.out hb).mono ?_
    rintro e w9 ⟨rfl, hw9⟩
    have hw8 := hw9.symm
    subst hw8
    clear hw9
    go_wp2
    go_ret
    exact ⟨ret1i HF.out.symm, HB.out⟩
  · have HF : Hid (termE sig t = sigE sig) := by show _ = _; unfold termE; rw [if_neg he]
    generalize sigE sig = E at he HF ⊢
    have heb : (E != 0) = true := by simpa using he
    go_wp2
    go_ret
    exact ⟨ret1i HF.out.symm, HB.out⟩

/-- A bind: a variable's number, and a row. -/
abbrev Bd := Int × List Int

def EB (w : World) (g o : Nat) (b : Bd) : Prop := -9223372036854775808 ≤ b.1 ∧ b.1 ≤ 9223372036854775807 ∧ b.2.length * 8 ≤ 140737488351232 ∧ w.cell? ⟨g, o, none⟩ = some (.int .i64 b.1) ∧ ∃ v, w.cell? ⟨g, o + 1, none⟩ = some v ∧ Is w v b.2

theorem EB.kp {w w' : World} (hk : Kp w w') (g o : Nat) (b : Bd) (h : EB w g o b) : EB w' g o b := by
  obtain ⟨h1, h2, h3, h4, v, h5, h6⟩ := h
  exact ⟨h1, h2, h3, hk.cell _ _ h4, v, hk.cell _ _ h5, h6.kp hk⟩

def Bs (w : World) (v : Value) (s : List Bd) : Prop := Row EB 2 w v s
theorem Bs.kp {w w' : World} {v : Value} {s : List Bd} (h : Bs w v s) (hk : Kp w w') : Bs w' v s := Row.imp h hk.size (EB.kp hk)

theorem Bs.at {w : World} {ao : Option Addr} {n cap : Nat} {s : List Bd} (h : Bs w (.slice ao n cap) s) {k : Nat} (hk : k < s.length) :
    ∃ g off x a t c, ao = some ⟨g, off, none⟩ ∧ s[k]? = some (x, t) ∧ w.cell? ⟨g, off + k * 2, none⟩ = some (.int .i64 x) ∧ w.cell? ⟨g, off + k * 2 + 1, none⟩ = some (.slice a t.length c) ∧ Is w (.slice a t.length c) t ∧ -9223372036854775808 ≤ x ∧ x ≤ 9223372036854775807 ∧ t.length * 8 ≤ 140737488351232 := by
  obtain ⟨ao', cap', hv, _, _, hx⟩ := Row.flat h
  simp only [Value.slice.injEq] at hv
  obtain ⟨rfl, rfl, rfl⟩ := hv
  obtain ⟨g, off, ⟨x, t⟩, rfl, hm, h1, h2, h3, h4, v, h5, h6⟩ := hx k hk
  obtain ⟨a, c, rfl, _⟩ := Row.flat h6
  exact ⟨g, off, x, a, t, c, rfl, hm, h4, h5, h6, h1, h2, h3⟩

/-- What is wrong with binds, from a place on. -/
def bindGo (sig : List Sy) : Option Int → List Bd → Int
  | _, [] => 0
  | p, b :: r => if isVarB b.1 then (if p.any (fun y => decide (b.1 ≤ y)) then 41 else if termE sig b.2 = 0 then bindGo sig (some b.1) r else termE sig b.2) else 40

def bindE (sig : List Sy) (s : List Bd) : Int := if sigE sig = 0 then bindGo sig none s else sigE sig

/-- The number of the bind ahead of a place. -/
def ahead (s : List Bd) : Nat → Option Int
  | 0 => none
  | k + 1 => (s[k]?).map (·.1)

set_option maxRecDepth 100000 in
set_option maxHeartbeats 1600000 in
theorem substCheck_any (sv bv : Value) (sig : List Sy) (s : List Bd) (w : World) (hs : Sg w sv sig) (h : Bs w bv s) (hT : Tabs w) :
    Calls Tryz.prog 43 #[sv, bv] w fun e w' => e = .returned (.int .i64 (bindE sig s)) ∧ Below w.heap.size w w' := by
  obtain ⟨so, sc, rfl, hso, hsc, _⟩ := Row.flat h
  unfold maxLen at hsc
  have HS : Hid (Sg w sv sig) := hs
  have HI : Hid (Bs w (.slice so s.length sc) s) := h
  have HT : Hid (Tabs w) := hT
  clear hs h hT
  go_enter Tryz.func43, Tryz.ntmps43
  go_wp2_with fail
  refine (checkSig_any sv sig w HS.out HT.out).mono ?_
  rintro e w1 ⟨rfl, hb1⟩
  have HB : Hid (Below w.heap.size w w1) := hb1
  clear hb1
  by_cases he : sigE sig = 0
  · have HF : Hid (bindE sig s = bindGo sig none s) := by show _ = _; unfold bindE; rw [if_pos he]
    rw [he]
    clear he
    go_wp2
    go_loopw [16] (fun i wr => ∃ k : Nat, k ≤ s.length ∧ i = .int .i64 k ∧ bindGo sig none s = bindGo sig (ahead s k) (s.drop k) ∧ Below w.heap.size w wr) (fun i _ => s.length - (intOf i).toNat)
    case atStart => exact ⟨0, Nat.zero_le _, rfl, rfl, HB.out⟩
    case round =>
      obtain ⟨k, hk, rfl, hgo, hbl⟩ := hrel
      have HG : Hid (bindE sig s = bindGo sig (ahead s k) (s.drop k)) := HF.out.trans hgo
      clear hgo
      by_cases hlt : k < s.length
      · have HSr : Hid (Sg wr sv sig) := HS.out.kp (Kp.of_below hbl)
        have HIr : Hid (Bs wr (.slice so s.length sc) s) := HI.out.kp (Kp.of_below hbl)
        have HTr : Hid (Tabs wr) := HT.out.below hbl
        obtain ⟨g, off, x, ba, t, bc, rfl, hm, hc0, hc1, hit, hx1, hx2, hx3⟩ := HIr.out.at hlt
        have HIt : Hid (Is wr (.slice ba t.length bc) t) := hit
        have HD : Hid (bindE sig s = if isVarB x then (if (ahead s k).any (fun y => decide (x ≤ y)) then 41 else if termE sig t = 0 then bindGo sig (some x) (s.drop (k + 1)) else termE sig t) else 40) := by
          show _ = _
          rw [HG.out, drop_get hm]
          rfl
        have HN : Hid (ahead s (k + 1) = some x) := by show (s[k]?).map (·.1) = _; rw [hm]; rfl
        have HBb : Hid (Below w.heap.size w (wr.alloc (.cells #[.int .i64 x, .slice ba t.length bc] 121))) := below_step hbl (below_alloc _)
        clear hm hit HG
        go_wp2_with fail
        refine (isVariable_any x _).mono ?_
        rintro e wb ⟨rfl, hw9⟩
        obtain ⟨hd0, hd1, hbw⟩ := box2 (w := wr) (x := .int .i64 x) (y := .slice ba t.length bc) (t := 121) (Below.refl _ _)
        rw [← hw9] at hd0 hd1 hbw HBb
        have HW : Hid (Below wr.heap.size wr wb) := hbw
        clear hw9 hbw hc0 hc1
        cases hv : isVarB x
        · have HE : Hid (bindE sig s = 40) := by show _ = _; rw [HD.out, hv]; rfl
          go_wp2
          go_ret
          exact ⟨ret1i HE.out.symm, HBb.out⟩
        have HD2 : Hid (bindE sig s = if (ahead s k).any (fun y => decide (x ≤ y)) then 41 else if termE sig t = 0 then bindGo sig (some x) (s.drop (k + 1)) else termE sig t) := by
          show _ = _; rw [HD.out, hv, if_pos rfl]
        clear HD hv
        by_cases hk0 : k = 0
        · subst hk0
          have HD3 : Hid (bindE sig s = if termE sig t = 0 then bindGo sig (some x) (s.drop 1) else termE sig t) := by show _ = _; rw [HD2.out]; rfl
          clear HD2
          go_wp2
          go_quiet (fail)
          have HBq : Hid (Below wr.heap.size wr (wb.drewN nq)) := below_drewN HW.out _
          go_wp2_with fail
          refine (check_any sv _ sig t _ (HSr.out.kp (Kp.of_below HBq.out)) (HIt.out.kp (Kp.of_below HBq.out)) (HTr.out.below HBq.out) hx3).mono ?_
          rintro e w2 ⟨rfl, hb2⟩
          have HB2 : Hid (Below w.heap.size w w2) := below_step hbl (below_step HBq.out hb2)
          clear hb2
          by_cases hte : termE sig t = 0
          · have HE : Hid (bindGo sig none s = bindGo sig (ahead s (0 + 1)) (s.drop (0 + 1))) := by show _ = _; rw [← HF.out, HD3.out, if_pos hte, HN.out]
            rw [hte]
            clear hte
            go_wp2
            go_roundw
            case rel => exact ⟨0 + 1, by omega, by go_num, HE.out, HB2.out⟩
            case measure => simp [intOf]; omega
          · have HE : Hid (bindE sig s = termE sig t) := by show _ = _; rw [HD3.out, if_neg hte]
            generalize termE sig t = E at hte HE ⊢
            have heb : (E != 0) = true := by simpa using hte
            go_wp2
            go_ret
            exact ⟨ret1i HE.out.symm, HB2.out⟩
        · obtain ⟨j, rfl⟩ : ∃ j, k = j + 1 := ⟨k - 1, by omega⟩
          clear hk0
          obtain ⟨g', off', y, ya, u, yc, hq, hm2, he0, he1, _, hy1, hy2, _⟩ := HIr.out.at (k := j) (by omega)
          obtain ⟨rfl, rfl⟩ : g = g' ∧ off = off' := by simpa using hq
          have HA : Hid (ahead s (j + 1) = some y) := by show (s[j]?).map (·.1) = _; rw [hm2]; rfl
          have hg0 : (0 : Int) < (j : Int) + 1 := by omega
          have hjl : j < s.length := by omega
          have hjw : IntKind.i64.wrap (j : Int) = (j : Int) := IntWalk.i64_in _ ⟨by omega, by omega⟩
          have hf0 := (Kp.of_below HW.out).cell _ _ he0
          clear hm2 hq he1 he0
          by_cases hxy : x ≤ y
          · have HE : Hid (bindE sig s = 41) := by show _ = _; rw [HD2.out, HA.out]; simp [hxy]
            go_wp2
            go_quiet (fail)
            go_wp2
            go_ret
            exact ⟨ret1i HE.out.symm, below_drewN HBb.out _⟩
          · have HD3 : Hid (bindE sig s = if termE sig t = 0 then bindGo sig (some x) (s.drop (j + 1 + 1)) else termE sig t) := by show _ = _; rw [HD2.out, HA.out]; simp [hxy]
            clear HD2
            go_wp2
            go_quiet (fail)
            have HBq : Hid (Below wr.heap.size wr (wb.drewN nq)) := below_drewN HW.out _
            go_wp2_with fail
            refine (check_any sv _ sig t _ (HSr.out.kp (Kp.of_below HBq.out)) (HIt.out.kp (Kp.of_below HBq.out)) (HTr.out.below HBq.out) hx3).mono ?_
            rintro e w2 ⟨rfl, hb2⟩
            have HB2 : Hid (Below w.heap.size w w2) := below_step hbl (below_step HBq.out hb2)
            clear hb2
            by_cases hte : termE sig t = 0
            · have HE : Hid (bindGo sig none s = bindGo sig (ahead s (j + 1 + 1)) (s.drop (j + 1 + 1))) := by show _ = _; rw [← HF.out, HD3.out, if_pos hte, HN.out]
              rw [hte]
              clear hte
              go_wp2
              go_roundw
              case rel => exact ⟨j + 1 + 1, by omega, by go_num, HE.out, HB2.out⟩
              case measure => simp [intOf]; omega
            · have HE : Hid (bindE sig s = termE sig t) := by show _ = _; rw [HD3.out, if_neg hte]
              generalize termE sig t = E at hte HE ⊢
              have heb : (E != 0) = true := by simpa using hte
              go_wp2
              go_ret
              exact ⟨ret1i HE.out.symm, HB2.out⟩
      · have hke : k = s.length := by omega
        subst hke
        have HE : Hid (bindE sig s = 0) := by show _ = _; rw [HG.out, List.drop_length]; rfl
        go_wp2
        go_ret
        exact ⟨ret1i HE.out.symm, hbl⟩
  · have HF : Hid (bindE sig s = sigE sig) := by show _ = _; unfold bindE; rw [if_neg he]
    generalize sigE sig = E at he HF ⊢
    have heb : (E != 0) = true := by simpa using he
    go_wp2
    go_ret
    exact ⟨ret1i HF.out.symm, HB.out⟩

end Go.Proofs.YtgpbnbmjgcchfaaGreatDoor

/- A map from numbers to values in memory; a row joined to one's own. -/
namespace Go.Proofs.YtgpbnbmjgcchfaaGreatDoor
open Go.RowKit Go.Maps

theorem join_ints (ty : TypeId) {w : World} {base : Nat} {x u : Value} {xs es : List Int} (ho : OwI w base x xs) (hs : Is w u es) (hb : base ≤ w.heap.size) (hl : (xs.length + es.length) * 8 ≤ 140737488355328) :
    ∃ v' w', (Builtin.append_ #[26, 26] ty #[x, u]).run Tryz.prog w = .ok v' w' ∧ OwI w' base v' (xs ++ es) ∧ w.grownBy w' x.ownBlock := by
  obtain ⟨i0, hi, hz0, hz1, hz2⟩ := info_parts info_int
  have hZ : ZI es := fun k x hk => by
    obtain ⟨ao, cap, rfl, _, _, hx⟩ := Row.flat hs
    obtain ⟨_, _, y, _, hy, h1, h2, _⟩ := hx k (List.getElem?_eq_some_iff.1 hk).1
    rw [hk] at hy
    cases hy
    exact ⟨h1, h2⟩
  have hZ2 : ZI (xs ++ es) := fun k y hk => by
    by_cases hkl : k < xs.length
    · rw [List.getElem?_append_left hkl] at hk
      exact ho.1 k y hk
    · rw [List.getElem?_append_right (by omega)] at hk
      exact hZ _ y hk
  obtain ⟨ao, cap, rfl, hc, hm, hx⟩ := hs
  by_cases h0 : es.length = 0
  · obtain rfl : es = [] := List.eq_nil_of_length_eq_zero h0
    obtain ⟨bo, bc, rfl, hbc, _⟩ := ho.shape
    refine ⟨_, w, run_append_nothing w 26 26 ty 3 i0 under_ints hi _ xs.length bc hbc _ ?_, by rw [List.append_nil]; exact ho, World.grownBy.refl _ _⟩
    cases ao with
    | none => exact Src.ofNil w under_ints _
    | some a => exact Src.ofSlice w under_ints a 0 _ [] (by simp) (fun j u hj => (by simp at hj)) (fun u hu => (by simp at hu))
  · obtain ⟨g', off, rfl, hg, hcell⟩ := hx (by omega)
    obtain ⟨v', w', hr, h2, h3, _, _⟩ := run_append_own_at (P := Tryz.prog) w base 26 ty 3 i0 _ 1 8 under_ints hi hz0 hz1 hz2 rfl (by decide) _ xs.length (xs.map I64) ho.2 ⟨g', off, none⟩ es.length cap (es.map I64) (by simp) (fun j u hj => by
      rw [List.getElem?_map] at hj
      cases hk : es[j]? with
      | none => rw [hk] at hj; simp at hj
      | some x =>
        rw [hk] at hj
        simp at hj
        subst hj
        rw [Addr.add_lit]
        have := (hcell j x hk).2.2
        rw [Nat.mul_one] at this
        exact this) (fun u hu => by obtain ⟨x, _, rfl⟩ := List.mem_map.1 hu; rfl) (by unfold maxLen; omega) (by omega) hb
    refine ⟨v', w', hr, ⟨hZ2, ?_⟩, h3⟩
    rw [List.length_append, List.map_append]
    exact h2

/-- An element, read as the value that it is. -/
def RV (v : Value) : Option (DataW Value × List MemPlace) := some (.held v, [])

/-- Block b of w is the map L. -/
def MapV (w : World) (b : Nat) (L : List (Int × Value)) : Prop :=
  ∃ D : DataW Value, w.ownsMap Tryz.prog 3 RV b L.length D ∧ Maps.size D = L.length ∧
    (∀ k v, L.lookup k = some v → ∀ z, D.atKey (.int .i64 k) z = .held v) ∧ (∀ k, Maps.has D (.int .i64 k) = (L.lookup k).isSome)

theorem MapV.isMap {w : World} {b : Nat} {L : List (Int × Value)} (h : MapV w b L) : ∃ es clock, w.heap[b]? = some (.map es clock) := by
  obtain ⟨D, ⟨es, clock, hb, _⟩, _⟩ := h
  exact ⟨es, clock, hb⟩

theorem MapV.lt {w : World} {b : Nat} {L : List (Int × Value)} (h : MapV w b L) : b < w.heap.size := by
  obtain ⟨es, clock, hb⟩ := h.isMap
  exact (Array.getElem?_eq_some_iff.1 hb).1

theorem MapV.kept {w w' : World} {b : Nat} {L : List (Int × Value)} {row : Option Nat} (h : MapV w b L) (hg : w.grownBy w' row) (hr : row ≠ some b) : MapV w' b L := by
  obtain ⟨D, h1, h2, h3, h4⟩ := h
  exact ⟨D, h1.kept hg (fun e => hr e.symm), h2, h3, h4⟩

theorem MapV.later {w w' : World} {b : Nat} {L : List (Int × Value)} (h : MapV w b L) (hb : Below w.heap.size w w') : MapV w' b L :=
  h.kept (grown_of_below hb none) (by simp)

theorem MapV.made (w : World) : MapV (w.alloc (.map #[] 0)) w.heap.size [] :=
  ⟨DataW.map [], World.ownsMap_made w _ _ _, rfl, fun k v hk => (by cases hk), fun k => (by simp [Maps.has])⟩

theorem MapV.look {w : World} {b : Nat} {L : List (Int × Value)} (h : MapV w b L) {t e : TypeId} {z : Value} (ht : Tryz.prog.underlying t = some (.map 3 e)) (hz : (zeroValue e).run Tryz.prog w = .ok z w) {k : Int} (h1 : -9223372036854775808 ≤ k) (h2 : k ≤ 9223372036854775807) :
    (Instr.lookup t (.map (some b)) (.int .i64 k) true).run Tryz.prog w = .ok (.tuple #[(L.lookup k).getD z, .bool (L.lookup k).isSome]) w := by
  obtain ⟨D, hD, _, ha, hh⟩ := h
  obtain ⟨v, ps, hrun, hv⟩ := hD.look_ok set_keyed ht hz (zd := .held z) (zp := []) rfl (key_int h1 h2)
  rw [hrun, hh]
  have hv2 : D.atKey (.int .i64 k) (.held z) = .held v := by
    simp only [RV, Option.some.injEq, Prod.mk.injEq] at hv
    exact hv.1.symm
  cases hl : L.lookup k with
  | none =>
    rw [atKey_of_not_has (by rw [hh, hl]; rfl)] at hv2
    rw [DataW.held.inj hv2]
    simp only [Option.getD, Option.isSome]
  | some u =>
    rw [ha k u hl] at hv2
    rw [DataW.held.inj hv2]
    simp only [Option.getD, Option.isSome]

theorem MapV.store {w : World} {b : Nat} {L : List (Int × Value)} (h : MapV w b L) {t e : TypeId} (ht : Tryz.prog.underlying t = some (.map 3 e)) {k : Int} (h1 : -9223372036854775808 ≤ k) (h2 : k ≤ 9223372036854775807) (hn : L.lookup k = none) (hL : L.length < maxLen) (v : Value) :
    ∃ w', (Instr.mapUpdate t (.map (some b)) (.int .i64 k) v).run Tryz.prog w = .ok () w' ∧ MapV w' b ((k, v) :: L) ∧ w.grownBy w' (some b) := by
  obtain ⟨D, hD, hs, ha, hh⟩ := h
  have hT := hD.tidy set_keyed
  have hK : WideAt.IsKeyLit (.int .i64 k) := set_keyed.key (key_int h1 h2)
  obtain ⟨w', hrun, r1, r2⟩ := hD.store set_keyed ht hL (key_int h1 h2) (val := v) (d := .held v) (ps := []) rfl
  refine ⟨w', hrun, ⟨D.put (.int .i64 k) (.held v), r1, ?_, fun k' v' hl z => ?_, fun k' => ?_⟩, r2.grown⟩
  · rw [size_put hT, hs, hh, hn]
    rfl
  · rw [List.lookup_cons] at hl
    by_cases e : k' = k
    · subst e
      simp at hl
      subst hl
      exact atKey_put_same hT.isMap hK _ z
    · rw [show (k' == k) = false by simpa using e] at hl
      rw [atKey_put_other (by simpa using e)]
      exact ha k' v' hl z
  · rw [List.lookup_cons]
    by_cases e : k' = k
    · subst e
      rw [has_put_same hT.isMap hK]
      simp
    · rw [has_put_other (by simpa using e), hh, show (k' == k) = false by simpa using e]

theorem MapV.len {w : World} {b : Nat} {L : List (Int × Value)} (h : MapV w b L) {t e : TypeId} (ht : Tryz.prog.underlying t = some (.map 3 e)) (ty : TypeId) : (Builtin.len_ #[t] ty #[.map (some b)]).run Tryz.prog w = .ok (.int .i64 (L.length : Int)) w := by
  obtain ⟨D, h1, h2, _⟩ := h
  have := h1.len ht ty
  rw [h2] at this
  exact this

end Go.Proofs.YtgpbnbmjgcchfaaGreatDoor

/- What Apply answers. -/
namespace Go.Proofs.YtgpbnbmjgcchfaaGreatDoor
open Go.RowKit Go.Maps

theorem under_terms : Tryz.prog.underlying 111 = some (.map 3 26) := by kernel_rfl
theorem zero_ints (w : World) : (zeroValue 26).run Tryz.prog w = .ok (.slice none 0 0) w := by kernel_rfl

/-- The closure of boundTerms: it looks the number up. -/
theorem bound_closure (n : Int) (b bx : Nat) (L : List (Int × Value)) (w : World) (hc : w.cell? ⟨bx, 0, none⟩ = some (.map (some b))) (hm : MapV w b L) (h1 : -9223372036854775808 ≤ n) (h2 : n ≤ 9223372036854775807) :
    Calls Tryz.prog 75 #[.int .i64 n, .pointer (some ⟨bx, 0, none⟩)] w fun e w' => e = .returned (.tuple #[(L.lookup n).getD (.slice none 0 0), .bool (L.lookup n).isSome]) ∧ w' = w := by
  have hl := hm.look under_terms (zero_ints w) h1 h2
  have HL := hid hl
  clear hl hm
  generalize (L.lookup n).getD (.slice none 0 0) = r at HL ⊢
  generalize (L.lookup n).isSome = o at HL ⊢
  go_enter Tryz.func75, Tryz.ntmps75
  go_wp2_with (first
    | (at_lookup; refine wpList_lookup_run rfl _ _ _ _ rfl _ _ _ rfl rfl HL.out ?_))
  go_ret2
  exact ⟨rfl, rfl⟩

/-- The map's values are the terms of binds. -/
def Terms (w : World) : List (Int × Value) → List Bd → Prop
  | [], [] => True
  | (k, v) :: L, (x, t) :: s => k = x ∧ Is w v t ∧ Terms w L s
  | _, _ => False

theorem Terms.kp {w w' : World} (hk : Kp w w') : ∀ {L : List (Int × Value)} {s : List Bd}, Terms w L s → Terms w' L s
  | [], [], _ => trivial
  | (_, _) :: _, (_, _) :: _, ⟨h1, h2, h3⟩ => ⟨h1, h2.kp hk, Terms.kp hk h3⟩
  | [], _ :: _, h => h.elim
  | _ :: _, [], h => h.elim

theorem Terms.len {w : World} : ∀ {L : List (Int × Value)} {s : List Bd}, Terms w L s → L.length = s.length
  | [], [], _ => rfl
  | (_, _) :: _, (_, _) :: _, ⟨_, _, h3⟩ => congrArg (· + 1) (Terms.len h3)
  | [], _ :: _, h => h.elim
  | _ :: _, [], h => h.elim

theorem Terms.look {w : World} (n : Int) : ∀ {L : List (Int × Value)} {s : List Bd}, Terms w L s → (∀ t, s.lookup n = some t → ∃ v, L.lookup n = some v ∧ Is w v t) ∧ (s.lookup n = none → L.lookup n = none)
  | [], [], _ => ⟨fun t h => (by cases h), fun _ => rfl⟩
  | (k, v) :: L, (x, t) :: s, ⟨h1, h2, h3⟩ => by
    subst h1
    rw [List.lookup_cons, List.lookup_cons]
    cases hk : n == k with
    | true => exact ⟨fun u hu => ⟨v, rfl, by cases hu; exact h2⟩, fun h => by cases h⟩
    | false => exact Terms.look n h3
  | [], _ :: _, h => h.elim
  | _ :: _, [], h => h.elim

set_option maxRecDepth 100000 in
set_option maxHeartbeats 1600000 in
theorem boundTerms_any (bv : Value) (s : List Bd) (w : World) (h : Bs w bv s) (hn : ∀ k x t, s[k]? = some (x, t) → (s.take k).reverse.lookup x = none) :
    Calls Tryz.prog 45 #[bv] w fun e w' => ∃ b bx L, e = .returned (.func (.func 75) #[] #[.pointer (some ⟨bx, 0, none⟩)]) ∧ w'.cell? ⟨bx, 0, none⟩ = some (.map (some b)) ∧ MapV w' b L ∧ Terms w' L s.reverse ∧ Below w.heap.size w w' := by
  obtain ⟨so, sc, rfl, hso, hsc, _⟩ := Row.flat h
  unfold maxLen at hsc
  have HI : Hid (Bs w (.slice so s.length sc) s) := h
  have HN : Hid (∀ k x t, s[k]? = some (x, t) → (s.take k).reverse.lookup x = none) := hn
  clear h hn
  have hmm : ∀ (n : Int) (w : World), (Instr.makeMap 111 (some (.int .i64 n))).run Tryz.prog w = .ok (.map (some w.heap.size)) (w.alloc (.map #[] 0)) := by
    intro n w
    simp [Instr.makeMap, run_underlying under_terms, asInt, asIntOf, Result.andThen]
  go_enter Tryz.func45, Tryz.ntmps45
  go_wp2
  go_loopw [11] (fun i wr => ∃ (k : Nat) (L : List (Int × Value)), k ≤ s.length ∧ i = .int .i64 k ∧ Terms wr L (s.take k).reverse ∧ MapV wr w.heap.size L ∧ wr.cell? ⟨w.heap.size + 1, 0, none⟩ = some (.map (some w.heap.size)) ∧ Below w.heap.size w wr) (fun i _ => s.length - (intOf i).toNat)
  case atStart => exact ⟨0, [], Nat.zero_le _, rfl, trivial, (MapV.made w).later (below_alloc _), by simp, below_step (below_alloc _) (below_alloc _)⟩
  case round =>
    obtain ⟨k, L, hk, rfl, hte, hmv, hbx, hbl⟩ := hrel
    have HTe : Hid (Terms wr L (s.take k).reverse) := hte
    have HMv : Hid (MapV wr w.heap.size L) := hmv
    have HB : Hid (Below w.heap.size w wr) := hbl
    clear hte hmv hmm
    by_cases hlt : k < s.length
    · obtain ⟨g, off, x, ba, t, bc, rfl, hm, hc0, hc1, hit, hx1, hx2, hx3⟩ := (HI.out.kp (Kp.of_below hbl)).at hlt
      have hlen := HTe.out.len
      rw [List.length_reverse, List.length_take, Nat.min_eq_left hk] at hlen
      have hbw := below_alloc (w := wr) (.cells #[.int .i64 x, .slice ba t.length bc] 121)
      obtain ⟨w4, hr4, hm4, hg4⟩ := (HMv.out.later hbw).store under_terms hx1 hx2 ((HTe.out.look x).2 (HN.out k x t hm)) (by unfold maxLen; omega) (.slice ba t.length bc)
      obtain ⟨es, ck, hes⟩ := (HMv.out.later hbw).isMap
      have hkp : Kp wr w4 := (Kp.of_below hbw).trans (Kp.of_map hg4 hes)
      have HT4 : Hid (Terms w4 ((x, .slice ba t.length bc) :: L) (s.take (k + 1)).reverse) := by
        show Terms _ _ _
        rw [List.take_add_one, hm]
        simp only [Option.toList, List.reverse_append, List.reverse_cons, List.reverse_nil, List.nil_append, List.cons_append]
        exact ⟨rfl, hit.kp hkp, HTe.out.kp hkp⟩
      have HR4 : Hid ((Instr.mapUpdate 111 (.map (some w.heap.size)) (.int .i64 x) (.slice ba t.length bc)).run Tryz.prog (wr.alloc (.cells #[.int .i64 x, .slice ba t.length bc] 121)) = .ok () w4) := hr4
      have HM4 : Hid (MapV w4 w.heap.size ((x, .slice ba t.length bc) :: L)) := hm4
      have HB4 : Hid (Below w.heap.size w w4) := grown_below (below_step HB.out hbw) hg4 (Nat.le_refl _)
      have HX4 : Hid (w4.cell? ⟨w.heap.size + 1, 0, none⟩ = some (.map (some w.heap.size))) := hkp.cell _ _ hbx
      have hblk : w.heap.size + 1 < wr.heap.size := World.block_lt_of_cell? _ _ hbx
      clear hr4 hm4 hg4 hes hkp hbw hit hm hbl
      go_wp2_with (first
        | (at_mapUpdate; refine wpList_mapUpdate_run rfl _ _ _ _ rfl _ _ _ rfl rfl rfl HR4.out ?_))
      go_roundw
      case rel => exact ⟨k + 1, _, by omega, by go_num, HT4.out, HM4.out, HX4.out, HB4.out⟩
      case measure => simp [intOf]; omega
    · have hke : k = s.length := by omega
      subst hke
      rw [List.take_length] at HTe
      have HBx := hid hbx
      go_wp2
      go_ret
      exact ⟨_, _, _, rfl, HBx.out, HMv.out, HTe.out, HB.out⟩

end Go.Proofs.YtgpbnbmjgcchfaaGreatDoor

/- What lay and Apply answer. -/
namespace Go.Proofs.YtgpbnbmjgcchfaaGreatDoor
open Go.RowKit Go.Maps

/-- What a code becomes. -/
def piece (f : Int → Option (List Int)) (c : Int) : List Int := if c < 0 then (f (-1 - c)).getD [c] else [c]

/-- A row with pieces in its codes' places; none: too many nodes. -/
def layGo (f : Int → Option (List Int)) : List Int → List Int → Option (List Int)
  | a, [] => some a
  | a, c :: r => if 512 < a.length + (piece f c).length then none else layGo f (a ++ piece f c) r

def layE (f : Int → Option (List Int)) (t : List Int) : Int := if (layGo f [] t).isSome then 0 else 2
def layL (f : Int → Option (List Int)) (t : List Int) : List Int := (layGo f [] t).getD []

theorem nilI (w : World) (base : Nat) : OwI w base (.slice none 0 0) [] := ⟨fun k x hk => (by simp at hk), World.ownsRow_nil _ _ _ _⟩

theorem one_row {w : World} {g o cap : Nat} {c : Int} (h : w.cell? ⟨g, o, none⟩ = some (.int .i64 c)) (h1 : -9223372036854775808 ≤ c) (h2 : c ≤ 9223372036854775807) (h3 : 1 ≤ cap) (h4 : cap ≤ maxLen) : Is w (.slice (some ⟨g, o, none⟩) 1 cap) [c] := by
  refine ⟨some ⟨g, o, none⟩, cap, rfl, h3, h4, fun _ => ⟨g, o, rfl, World.block_lt_of_cell? _ _ h, fun k x hk => ?_⟩⟩
  have hk0 : k = 0 := by
    have := (List.getElem?_eq_some_iff.1 hk).1
    simp at this
    omega
  subst hk0
  simp at hk
  subst hk
  exact ⟨h1, h2, by simpa using h⟩

section
variable {P : Program} {w w' : World} {ops : Array Oper} {rest : List Oper} {o : Oper} {a : Act} {Q : Exit → Act → World → Prop}

theorem wpList_append_run (hg : o.guard = none) (s x : Operand) (t : TypeId) (ho : o.op = .call { callee := .builtin .append, args := #[s, x], argTypes := #[t, t] }) (v u : Value) {v' : Value} (hs : a.eval s = v) (hx : a.eval x = u)
    (hr : (Builtin.append_ #[t, t] o.type #[v, u]).run P w = .ok v' w') (h : wpList P ops Q rest (a.put o.dst v') w') : wpList P ops Q (o :: rest) a w := by
  refine wpList_plain hg fun K' hK' => ?_
  unfold Oper.wp
  simp [execOp, ho, resolve, invoke, builtin, hs, hx, hr, Result.andThen]
  exact hK' _ _ h

end

set_option maxRecDepth 100000 in
set_option maxHeartbeats 1600000 in
theorem lay_any (f : Int → Option (List Int)) (g : FuncId) (cv v : Value) (t : List Int) (w : World) (h : Is w v t) (_hb : t.length * 8 ≤ 140737488351232)
    (hf : ∀ n u, f n = some u → u.length * 8 ≤ 140737488351232)
    (hcall : ∀ (n : Int) (W : World), 0 ≤ n → n ≤ 9223372036854775807 → Below w.heap.size w W → Calls Tryz.prog g #[.int .i64 n, cv] W fun e w' => ∃ u, e = .returned (.tuple #[u, .bool (f n).isSome]) ∧ (∀ x, f n = some x → Is w' u x) ∧ Below W.heap.size W w')
    (eg : ∀ args w, (callFunc g args).run Tryz.prog w = .ok (.enter g args) w) :
    Calls Tryz.prog 44 #[v, .func (.func g) #[] #[cv]] w fun e w' => ∃ v', e = .returned (.tuple #[v', .int .i64 (layE f t)]) ∧ OwI w' w.heap.size v' (layL f t) ∧ Below w.heap.size w w' := by
  obtain ⟨ao, cap, rfl, hao, hca, q0⟩ := Row.flat h
  unfold maxLen at hca
  have HT : Hid (Is w (.slice ao t.length cap) t) := h
  have HF := hid hf
  have HC := hid hcall
  clear h q0 hf hcall
  go_enter Tryz.func44, Tryz.ntmps44
  go_wp2
  go_loopw [6, 14] (fun x i wr => ∃ (k : Nat) (a : List Int), k ≤ t.length ∧ i = .int .i64 k ∧ layGo f [] t = layGo f a (t.drop k) ∧ a.length ≤ 512 ∧ OwI wr w.heap.size x a ∧ Below w.heap.size w wr) (fun _ i _ => t.length - (intOf i).toNat)
  case atStart => exact ⟨0, [], Nat.zero_le _, rfl, rfl, by simp, nilI _ _, Below.refl _ _⟩
  case round =>
    obtain ⟨k, a, hk, rfl, hgo, hal, how, hbl⟩ := hrel
    obtain ⟨bo, bc, rfl, hbc1, hbc2⟩ := how.shape
    unfold maxLen at hbc2
    have HG := hid hgo
    have HOr := hid how
    have HB := hid hbl
    clear hgo how
    by_cases hlt : k < t.length
    · obtain ⟨ga, off, c, rfl, hx1, hx2, hx3, hx4⟩ := (HT.out.kp (Kp.of_below hbl)).at hlt
      have HD : Hid (t.drop k = c :: t.drop (k + 1)) := drop_get hx1
      have hone : Is wr (.slice (some ⟨ga, off + k, none⟩) 1 (cap - k)) [c] := one_row hx2 hx3 hx4 (by omega) (by unfold maxLen; omega)
      have HOne := hid hone
      clear hx1 hbl hone
      have hk1 : k ≤ k + 1 := by omega
      have hkc : k + 1 ≤ cap := by omega
      by_cases hc0 : c < 0
      · have hwr : IntKind.i64.wrap (-1 - c) = -1 - c := IntWalk.i64_in _ ⟨by omega, by omega⟩
        have HCl := hid (HC.out (-1 - c) wr (by omega) (by omega) HB.out)
        go_wp2_with fail
        refine HCl.out.mono ?_
        rintro e w2 ⟨u, rfl, hu, hb2⟩
        have HBw : Hid (Below w.heap.size w w2) := below_step HB.out hb2
        have HOw : Hid (OwI w2 w.heap.size (.slice bo a.length bc) a) := HOr.out.later hb2
        cases hfn : f (-1 - c) with
        | none =>
          have HPc : Hid (piece f c = [c]) := by show _ = _; unfold piece; rw [if_pos hc0, hfn]; rfl
          have HPi : Hid (Is w2 (.slice (some ⟨ga, off + k, none⟩) 1 (cap - k)) [c]) := HOne.out.kp (Kp.of_below hb2)
          clear hu hfn hb2 HCl
          simp only [Option.isSome]
          by_cases hbig : 512 < a.length + 1
          · have HE : Hid (layGo f [] t = none) := by show _ = _; rw [HG.out, HD.out, layGo, HPc.out]; exact if_pos hbig
            have hbigz : (512 : Int) < (a.length : Int) + 1 := by omega
            go_wp2
            go_ret2
            exact ⟨_, by unfold layE; rw [HE.out]; rfl, by unfold layL; rw [HE.out]; exact nilI _ _, HBw.out⟩
          · obtain ⟨v4, w4, hr4, ho4, hg4⟩ := join_ints 26 HOw.out HPi.out HBw.out.size (by (try simp only [List.length_cons, List.length_nil]); omega)
            have HE : Hid (layGo f [] t = layGo f (a ++ [c]) (t.drop (k + 1))) := by show _ = _; rw [HG.out, HD.out, layGo, HPc.out]; exact if_neg hbig
            have HR4 := hid hr4
            have HO4 := hid ho4
            have HB4 : Hid (Below w.heap.size w w4) := HBw.out.grown hg4 HBw.out.size (fun j hj => own_blk HOw.out.2 hj)
            have hbigz : ¬ (512 : Int) < (a.length : Int) + 1 := by omega
            have hal2 : (a ++ [c]).length ≤ 512 := by rw [List.length_append]; (try simp only [List.length_cons, List.length_nil]); omega
            clear hr4 ho4 hg4
            go_wp2_with (first
              | (at_builtin; refine wpList_append_run rfl _ _ _ rfl _ _ rfl rfl HR4.out ?_))
            go_roundw
            case rel => exact ⟨k + 1, a ++ [c], by omega, by go_num, HE.out, hal2, HO4.out, HB4.out⟩
            case measure => simp [intOf]; omega
        | some ps =>
          have HPc : Hid (piece f c = ps) := by show _ = _; unfold piece; rw [if_pos hc0, hfn]; rfl
          have hps := HF.out _ _ hfn
          have hpi := hu ps hfn
          obtain ⟨pa, pc, rfl, _⟩ := Row.flat hpi
          have HPi := hid hpi
          clear hu hfn hb2 HCl hpi
          simp only [Option.isSome]
          by_cases hbig : 512 < a.length + ps.length
          · have HE : Hid (layGo f [] t = none) := by show _ = _; rw [HG.out, HD.out, layGo, HPc.out]; exact if_pos hbig
            have hbigz : (512 : Int) < (a.length : Int) + (ps.length : Int) := by omega
            go_wp2
            go_ret2
            exact ⟨_, by unfold layE; rw [HE.out]; rfl, by unfold layL; rw [HE.out]; exact nilI _ _, HBw.out⟩
          · obtain ⟨v4, w4, hr4, ho4, hg4⟩ := join_ints 26 HOw.out HPi.out HBw.out.size (by (try simp only [List.length_cons, List.length_nil]); omega)
            have HE : Hid (layGo f [] t = layGo f (a ++ ps) (t.drop (k + 1))) := by show _ = _; rw [HG.out, HD.out, layGo, HPc.out]; exact if_neg hbig
            have HR4 := hid hr4
            have HO4 := hid ho4
            have HB4 : Hid (Below w.heap.size w w4) := HBw.out.grown hg4 HBw.out.size (fun j hj => own_blk HOw.out.2 hj)
            have hbigz : ¬ (512 : Int) < (a.length : Int) + (ps.length : Int) := by omega
            have hal2 : (a ++ ps).length ≤ 512 := by rw [List.length_append]; (try simp only [List.length_cons, List.length_nil]); omega
            clear hr4 ho4 hg4
            go_wp2_with (first
              | (at_builtin; refine wpList_append_run rfl _ _ _ rfl _ _ rfl rfl HR4.out ?_))
            go_roundw
            case rel => exact ⟨k + 1, a ++ ps, by omega, by go_num, HE.out, hal2, HO4.out, HB4.out⟩
            case measure => simp [intOf]; omega
      · have HPc : Hid (piece f c = [c]) := by show _ = _; unfold piece; rw [if_neg hc0]
        have HBw := HB
        have HOw := HOr
        have HPi := HOne
        by_cases hbig : 512 < a.length + 1
        · have HE : Hid (layGo f [] t = none) := by show _ = _; rw [HG.out, HD.out, layGo, HPc.out]; exact if_pos hbig
          have hbigz : (512 : Int) < (a.length : Int) + 1 := by omega
          go_wp2
          go_ret2
          exact ⟨_, by unfold layE; rw [HE.out]; rfl, by unfold layL; rw [HE.out]; exact nilI _ _, HBw.out⟩
        · obtain ⟨v4, w4, hr4, ho4, hg4⟩ := join_ints 26 HOw.out HPi.out HBw.out.size (by (try simp only [List.length_cons, List.length_nil]); omega)
          have HE : Hid (layGo f [] t = layGo f (a ++ [c]) (t.drop (k + 1))) := by show _ = _; rw [HG.out, HD.out, layGo, HPc.out]; exact if_neg hbig
          have HR4 := hid hr4
          have HO4 := hid ho4
          have HB4 : Hid (Below w.heap.size w w4) := HBw.out.grown hg4 HBw.out.size (fun j hj => own_blk HOw.out.2 hj)
          have hbigz : ¬ (512 : Int) < (a.length : Int) + 1 := by omega
          have hal2 : (a ++ [c]).length ≤ 512 := by rw [List.length_append]; (try simp only [List.length_cons, List.length_nil]); omega
          clear hr4 ho4 hg4
          go_wp2_with (first
            | (at_builtin; refine wpList_append_run rfl _ _ _ rfl _ _ rfl rfl HR4.out ?_))
          go_roundw
          case rel => exact ⟨k + 1, a ++ [c], by omega, by go_num, HE.out, hal2, HO4.out, HB4.out⟩
          case measure => simp [intOf]; omega
    · have HE : Hid (layGo f [] t = some a) := by show _ = _; rw [HG.out, List.drop_of_length_le (by omega)]; rfl
      go_wp2
      go_ret2
      exact ⟨_, by unfold layE; rw [HE.out]; rfl, by unfold layL; rw [HE.out]; exact HOr.out, HB.out⟩

end Go.Proofs.YtgpbnbmjgcchfaaGreatDoor

/- What Apply answers. -/
namespace Go.Proofs.YtgpbnbmjgcchfaaGreatDoor
open Go.RowKit Go.Maps

/-- What a variable becomes by binds. -/
def bnd (s : List Bd) (n : Int) : Option (List Int) := s.reverse.lookup n

theorem lookup_mem {α : Type} : ∀ {l : List (Int × α)} {n : Int} {x : α}, l.lookup n = some x → (n, x) ∈ l
  | (k, v) :: l, n, x, h => by
    rw [List.lookup_cons] at h
    cases hk : n == k with
    | true =>
      rw [hk] at h
      cases h
      rw [beq_iff_eq] at hk
      subst hk
      exact .head _
    | false =>
      rw [hk] at h
      exact .tail _ (lookup_mem h)

theorem bind_rise (sig : List Sy) : ∀ (s : List Bd) (p : Option Int), bindGo sig p s = 0 → (∀ y, p = some y → ∀ b ∈ s, y < b.1) ∧ s.Pairwise (fun a b => a.1 < b.1)
  | [], _, _ => ⟨fun _ _ b hb => (by cases hb), List.Pairwise.nil⟩
  | b :: r, p, h => by
    unfold bindGo at h
    split at h
    · split at h
      · cases h
      · rename_i hp
        split at h
        · obtain ⟨h1, h2⟩ := bind_rise sig r (some b.1) h
          have h1' := h1 b.1 rfl
          refine ⟨fun y hy c hc => ?_, List.Pairwise.cons h1' h2⟩
          subst hy
          have hyb : y < b.1 := by simpa using hp
          cases hc with
          | head => exact hyb
          | tail _ hc => have := h1' c hc; omega
        · rename_i he
          exact absurd h he
    · cases h

theorem bind_new {s : List Bd} (h : s.Pairwise (fun a b => a.1 < b.1)) {k : Nat} {x : Int} {t : List Int} (hk : s[k]? = some (x, t)) : (s.take k).reverse.lookup x = none := by
  cases hl : (s.take k).reverse.lookup x with
  | none => rfl
  | some u =>
    have hm := lookup_mem hl
    rw [List.mem_reverse] at hm
    obtain ⟨j, hj, he⟩ := List.getElem_of_mem hm
    rw [List.length_take] at hj
    have hkl : k < s.length := (List.getElem?_eq_some_iff.1 hk).1
    have h2 := List.pairwise_iff_getElem.1 h j k (by omega) hkl (by omega)
    rw [List.getElem_take] at he
    rw [he, (List.getElem?_eq_some_iff.1 hk).2] at h2
    simp at h2

theorem Bs.small {w : World} {v : Value} {s : List Bd} (h : Bs w v s) {b : Bd} (hb : b ∈ s) : b.2.length * 8 ≤ 140737488351232 := by
  obtain ⟨ao, cap, rfl, _, _, hx⟩ := Row.flat h
  obtain ⟨k, hk, rfl⟩ := List.getElem_of_mem hb
  obtain ⟨g, off, x, _, hm, _, _, h3, _⟩ := hx k hk
  rw [List.getElem?_eq_getElem hk] at hm
  cases hm
  exact h3

def applyE (sig : List Sy) (s : List Bd) (t : List Int) : Int := if bindE sig s = 0 then (if termE sig t = 0 then layE (bnd s) t else termE sig t) else bindE sig s
def applyL (sig : List Sy) (s : List Bd) (t : List Int) : List Int := if bindE sig s = 0 then (if termE sig t = 0 then layL (bnd s) t else []) else []

set_option maxRecDepth 100000 in
set_option maxHeartbeats 1600000 in
theorem apply_any (sv bv v : Value) (sig : List Sy) (s : List Bd) (t : List Int) (w : World) (hs : Sg w sv sig) (hB : Bs w bv s) (h : Is w v t) (hT : Tabs w) (hb : t.length * 8 ≤ 140737488351232) :
    Calls Tryz.prog 15 #[sv, bv, v] w fun e w' => ∃ v', e = .returned (.tuple #[v', .int .i64 (applyE sig s t)]) ∧ OwI w' w.heap.size v' (applyL sig s t) ∧ Below w.heap.size w w' := by
  have HS := hid hs
  have HBs := hid hB
  have HI := hid h
  have HT := hid hT
  clear hs hB h hT
  go_enter Tryz.func15, Tryz.ntmps15
  go_wp2_with fail
  refine (substCheck_any sv bv sig s w HS.out HBs.out HT.out).mono ?_
  rintro e w1 ⟨rfl, hb1⟩
  have HB1 := hid hb1
  clear hb1
  by_cases he : bindE sig s = 0
  · rw [he]
    go_wp2_with fail
    refine (check_any sv v sig t w1 (HS.out.kp (Kp.of_below HB1.out)) (HI.out.kp (Kp.of_below HB1.out)) (HT.out.below HB1.out) hb).mono ?_
    rintro e w2 ⟨rfl, hb2⟩
    have HB2 : Hid (Below w.heap.size w w2) := below_step HB1.out hb2
    clear hb2
    by_cases hte : termE sig t = 0
    · rw [hte]
      have HE : Hid (applyE sig s t = layE (bnd s) t) := by show _ = _; unfold applyE; rw [if_pos he, if_pos hte]
      have HL : Hid (applyL sig s t = layL (bnd s) t) := by show _ = _; unfold applyL; rw [if_pos he, if_pos hte]
      have HNew : Hid (∀ k x t, s[k]? = some (x, t) → (s.take k).reverse.lookup x = none) := fun k x t hk => bind_new (bind_rise sig s none (by
        unfold bindE at he
        split at he
        · exact he
        · rename_i h0; exact absurd he h0)).2 hk
      clear he hte
      go_wp2_with fail
      refine (boundTerms_any bv s w2 (HBs.out.kp (Kp.of_below HB2.out)) HNew.out).mono ?_
      rintro e w3 ⟨b, bx, L, rfl, hc, hm, hte, hb3⟩
      have HB3 : Hid (Below w.heap.size w w3) := below_step HB2.out hb3
      have HLay := hid (lay_any (bnd s) 75 (.pointer (some ⟨bx, 0, none⟩)) v t w3 (HI.out.kp (Kp.of_below HB3.out)) hb (fun n u hn => HBs.out.small (List.mem_reverse.1 (lookup_mem hn)))
        (fun n W h0 h1 hW => (bound_closure n b bx L W ((Kp.of_below hW).cell _ _ hc) (hm.later hW) (by omega) h1).mono (fun e w4 he => by
          obtain ⟨rfl, rfl⟩ := he
          obtain ⟨k1, k2⟩ := (hte.kp (Kp.of_below hW)).look n
          refine ⟨(L.lookup n).getD (.slice none 0 0), ?_, fun x hx => ?_, Below.refl _ _⟩
          · cases hbn : bnd s n with
            | none => rw [k2 hbn]; rfl
            | some x => obtain ⟨y, hy, _⟩ := k1 x hbn; rw [hy]; rfl
          · obtain ⟨y, hy, hi⟩ := k1 x hx
            rw [hy]
            exact hi))
        (enters_of Tryz.func75 (by kernel_rfl) rfl))
      clear hc hm hte hb3
      go_wp2_with fail
      refine HLay.out.mono ?_
      rintro e w4 ⟨v', rfl, ho, hb4⟩
      have HO : Hid (OwI w4 w.heap.size v' (layL (bnd s) t)) := ho.mono HB3.out.size
      have HB4 : Hid (Below w.heap.size w w4) := below_step HB3.out hb4
      clear ho hb4 HLay
      go_wp2
      go_ret2
      exact ⟨_, by rw [HE.out]; rfl, by rw [HL.out]; exact HO.out, HB4.out⟩
    · have HE : Hid (applyE sig s t = termE sig t) := by show _ = _; unfold applyE; rw [if_pos he, if_neg hte]
      have HL : Hid (applyL sig s t = []) := by show _ = _; unfold applyL; rw [if_pos he, if_neg hte]
      clear he
      generalize termE sig t = E at hte HE ⊢
      have heb : (E != 0) = true := by simpa using hte
      go_wp2
      go_ret2
      exact ⟨_, by rw [HE.out]; rfl, by rw [HL.out]; exact nilI _ _, HB2.out⟩
  · have HE : Hid (applyE sig s t = bindE sig s) := by show _ = _; unfold applyE; rw [if_neg he]
    have HL : Hid (applyL sig s t = []) := by show _ = _; unfold applyL; rw [if_neg he]
    generalize bindE sig s = E at he HE ⊢
    have heb : (E != 0) = true := by simpa using he
    go_wp2
    go_ret2
    exact ⟨_, by rw [HE.out]; rfl, by rw [HL.out]; exact nilI _ _, HB1.out⟩

end Go.Proofs.YtgpbnbmjgcchfaaGreatDoor

/- Binds laid, plainly; one after the other. -/
namespace Go.Proofs.YtgpbnbmjgcchfaaGreatDoor
open Go.RowKit Go.Maps

/-- What comes of a row, of whatever length. -/
def laidL (f : Int → Option (List Int)) (t : List Int) : List Int := t.flatMap (piece f)

theorem layGo_eq (f : Int → Option (List Int)) : ∀ (t a : List Int), a.length ≤ 512 → layGo f a t = if 512 < a.length + (laidL f t).length then none else some (a ++ laidL f t)
  | [], a, h => by
    unfold layGo laidL
    rw [List.flatMap_nil, List.append_nil, if_neg (by simp; omega)]
  | c :: t, a, h => by
    unfold layGo
    have hl : (laidL f (c :: t)).length = (piece f c).length + (laidL f t).length := by unfold laidL; rw [List.flatMap_cons, List.length_append]
    by_cases h5 : 512 < a.length + (piece f c).length
    · rw [if_pos h5, if_pos (by omega)]
    · rw [if_neg h5, layGo_eq f t (a ++ piece f c) (by rw [List.length_append]; omega), List.length_append]
      by_cases h6 : 512 < a.length + (piece f c).length + (laidL f t).length
      · rw [if_pos h6, if_pos (by omega)]
      · rw [if_neg h6, if_neg (by omega)]
        unfold laidL
        rw [List.flatMap_cons, List.append_assoc]

theorem lay_eq (f : Int → Option (List Int)) (t : List Int) : layE f t = (if 512 < (laidL f t).length then 2 else 0) ∧ layL f t = if 512 < (laidL f t).length then [] else laidL f t := by
  unfold layE layL
  rw [layGo_eq f t [] (by simp)]
  rw [List.length_nil, Nat.zero_add, List.nil_append]
  by_cases h : 512 < (laidL f t).length
  · rw [if_pos h, if_pos h, if_pos h]
    exact ⟨rfl, rfl⟩
  · rw [if_neg h, if_neg h, if_neg h]
    exact ⟨rfl, rfl⟩

/-- One after the other: the binds that do both. -/
theorem laid_after (f g h : Int → Option (List Int)) (hh : ∀ n, h n = match f n with | some u => some (laidL g u) | none => g n) (t : List Int) : laidL h t = laidL g (laidL f t) := by
  induction t with
  | nil => rfl
  | cons c t ih =>
    unfold laidL at ih ⊢
    rw [List.flatMap_cons, List.flatMap_cons, List.flatMap_append, ih]
    congr 1
    by_cases hc : c < 0
    · unfold piece
      rw [if_pos hc, if_pos hc, hh]
      cases hf : f (-1 - c) with
      | some u => rfl
      | none =>
        show (g (-1 - c)).getD [c] = ([c]).flatMap _
        rw [List.flatMap_cons, List.flatMap_nil, List.append_nil, if_pos hc]
    · have e : ∀ k, piece k c = [c] := fun k => by unfold piece; rw [if_neg hc]
      rw [e, e, List.flatMap_cons, List.flatMap_nil, List.append_nil, e]

end Go.Proofs.YtgpbnbmjgcchfaaGreatDoor
