/- What Vars, and the law file's same, answer. -/
import Derived.Test.YtjcgngfidnechaaDoorTBase
namespace Go.Proofs.YtjcgngfidnechaaDoor
open Go.RowKit Go.Maps

/-- The codes below 0 of a row, each once, as they are met, behind those that were met. -/
def metA : List Int → List Int → List Int
  | m, [] => m
  | m, c :: r => if 0 ≤ c ∨ c ∈ m then metA m r else metA (m ++ [c]) r

def varsL (t : List Int) : List Int := (metA [] t).map fun c => -1 - c

theorem set_keyed : Keyed Tryd.prog 3 := int_keyed (q := .i64) (by kernel_rfl)
theorem under_set : Tryd.prog.underlying 47 = some (.map 3 48) := by kernel_rfl
theorem zero_unit (w : World) : (zeroValue 48).run Tryd.prog w = .ok (.agg #[]) w := by kernel_rfl

theorem key_int {c : Int} (h1 : -9223372036854775808 ≤ c) (h2 : c ≤ 9223372036854775807) : keyOf Tryd.prog 3 (.int .i64 c) = some (.int .i64 c) := by
  refine keyOf_int_mk (by kernel_rfl) ?_
  have e0 : IntKind.i64.min = -9223372036854775808 := by decide
  have e1 : IntKind.i64.max = 9223372036854775807 := by decide
  simp [Lit.wf, e0, e1]
  omega

theorem Is.range {w : World} {v : Value} {xs : List Int} (h : Is w v xs) : ZI xs := fun k x hk => by
  obtain ⟨ao, cap, rfl, _, _, hx⟩ := Row.flat h
  obtain ⟨_, _, y, _, hy, h1, h2, _⟩ := hx k (List.getElem?_eq_some_iff.1 hk).1
  rw [hk] at hy
  cases hy
  exact ⟨h1, h2⟩

theorem Is.flatI {w : World} {v : Value} {xs : List Int} (h : Is w v xs) : ∃ ao cap, v = .slice ao xs.length cap ∧ xs.length ≤ cap ∧ cap ≤ 9223372036854775807 ∧
    ∀ k : Nat, k < xs.length → ∃ g off x, ao = some ⟨g, off, none⟩ ∧ xs[k]? = some x ∧ w.cell? ⟨g, off + k, none⟩ = some (.int .i64 x) := by
  obtain ⟨ao, cap, rfl, h1, h2, hx⟩ := Row.flat h
  refine ⟨ao, cap, rfl, h1, by unfold maxLen at h2; omega, fun k hk => ?_⟩
  obtain ⟨g, off, x, rfl, hm, _, _, h3⟩ := hx k hk
  rw [Nat.mul_one] at h3
  exact ⟨g, off, x, rfl, hm, h3⟩

theorem drawn_below {w w' : World} {n : Nat} (h : w' = w.drewN n) : Below w.heap.size w w' := by rw [h]; exact below_drewN (Below.refl _ _) n

theorem cell_int_new (w : World) (x : Int) (j : Nat) (u : Value) (hj : [Value.int .i64 x][j]? = some u) : (w.alloc (.cells #[.int .i64 x] 3)).cell? ((⟨w.heap.size, 0, none⟩ : Addr).add j) = some u := by
  rw [Addr.add_lit, Nat.zero_add, cell_of_row _ _ _ _ _ _ (heap_alloc_new _ _)]
  simpa using hj

theorem own_notMap {w : World} {base n : Nat} {e : TypeId} {s b : Nat} {v : Value} {xs : List Value} {es : Array MapEntry} {clock : Nat} (h : w.ownsRow base e s v n xs) (hb : w.heap[b]? = some (.map es clock)) : v.ownBlock = none ∨ v.ownBlock ≠ some b := by
  rcases h.2 with ⟨rfl, _⟩ | ⟨g, cap, cur, rfl, _, hg, _⟩
  · exact .inl rfl
  · refine .inr ?_
    simp only [Value.ownBlock]
    intro e
    cases e
    rw [hg] at hb
    cases hb

/-- The row of numbers, behind a store into the map and the new element. -/
theorem vars_row {H : Type} {w wr w4 : World} {o o' : Obj} {n b : Nat} {R : Value → Option (DataW H × List MemPlace)} {D : DataW H} {x : Value} {zs : List Int} {kt : TypeId} (h : OwI wr w.heap.size x zs) (hm : wr.ownsMap Tryd.prog kt R b n D) (hg : (wr.alloc o).grownBy w4 (some b)) :
    OwI w4 w.heap.size x zs ∧ (w4.alloc o').ownsRow w.heap.size 3 1 x zs.length (zs.map I64) := by
  have hm2 := hm.alloc o
  obtain ⟨es, clock, hb, _⟩ := hm2
  have h2 := h.later (below_alloc o)
  have h3 := h2.kept hg (own_notMap h2.2 hb)
  exact ⟨h3, ownsRow_later h3.2 (below_alloc o')⟩

theorem vars_next {H : Type} {w wr w4 w5 : World} {o o' : Obj} {b : Nat} {D : DataW H} {x5 x4 : Value} {m : List Int} {x : Int} (hB : Below w.heap.size w wr) (h : OwI wr w.heap.size x4 (m.map fun c => -1 - c)) (hm : wr.ownsMap Tryd.prog 3 unitElem b m.length D) (hh : ∀ c : Int, Maps.has D (.int .i64 c) = decide (c ∈ m))
    (hg : (wr.alloc o).grownBy w4 (some b)) (hm4 : w4.ownsMap Tryd.prog 3 unitElem b (m.length + 1) (D.put (.int .i64 x) (.agg []))) (hown : w5.ownsRow w.heap.size 3 1 x5 ((m.map fun c => -1 - c).length + 1) ((m.map fun c => -1 - c).map I64 ++ [.int .i64 (-1 - x)])) (hgr : (w4.alloc o').grownBy w5 x4.ownBlock) (hz : -9223372036854775808 ≤ -1 - x ∧ -1 - x ≤ 9223372036854775807) (hb : w.heap.size ≤ b := by exact Nat.le_refl _) :
    Hid (OwI w5 w.heap.size x5 ((m ++ [x]).map fun c => -1 - c) ∧ w5.ownsMap Tryd.prog 3 unitElem b (m ++ [x]).length (D.put (.int .i64 x) (.agg [])) ∧ (∀ c : Int, Maps.has (D.put (.int .i64 x) (.agg [])) (.int .i64 c) = decide (c ∈ m ++ [x])) ∧ Below w.heap.size w w5) := by
  have hT := hm.tidy set_keyed
  have hK : WideAt.IsKeyLit (.int .i64 x) := set_keyed.key (key_int (by omega) (by omega))
  obtain ⟨h4, h4'⟩ := vars_row (o' := o') h hm hg
  obtain ⟨es, clock, hbm, _⟩ := hm4.alloc o'
  have b1 : Below w.heap.size w w4 := (below_step hB (below_alloc o)).grown hg (below_step hB (below_alloc o)).size (fun j hj => by cases hj; exact hb)
  have b2 : Below w.heap.size w (w4.alloc o') := below_step b1 (below_alloc o')
  refine ⟨⟨fun j z hj => ?_, ?_⟩, ?_, fun c => ?_, b2.grown hgr b2.size (fun j hj => own_blk h4' hj)⟩
  · rw [List.map_append] at hj
    by_cases hjl : j < (m.map fun c => -1 - c).length
    · rw [List.getElem?_append_left hjl] at hj
      exact h.1 j z hj
    · rw [List.getElem?_append_right (by omega)] at hj
      have e0 : j - (m.map fun c => -1 - c).length = 0 := by
        have := (List.getElem?_eq_some_iff.1 hj).1
        simp at this
        simp
        omega
      rw [e0] at hj
      simp at hj
      omega
  · rw [List.map_append, List.map_append, List.length_append]
    exact hown
  · rw [List.length_append]
    refine (hm4.alloc o').kept hgr (fun e => ?_)
    rcases own_notMap h4' hbm with h0 | h0
    · rw [h0] at e
      cases e
    · exact h0 e.symm
  · by_cases e : c = x
    · subst e
      rw [has_put_same hT.isMap hK]
      simp
    · rw [has_put_other (by simpa using e), hh]
      simp [e]

set_option maxRecDepth 100000 in
set_option maxHeartbeats 1600000 in
theorem vars_any (v : Value) (t : List Int) (w : World) (h : Is w v t) (hb : t.length * 8 ≤ 140737488351232) :
    Calls Tryd.prog 15 #[v] w fun e w' => ∃ v', e = .returned v' ∧ OwI w' w.heap.size v' (varsL t) ∧ Below w.heap.size w w' := by
  obtain ⟨i1, hi1, hy0, hy1, hy2⟩ := info_parts info_int
  obtain ⟨ao, cap, rfl, hao, hca, q0⟩ := Row.flat h
  unfold maxLen at hca
  have HT : Hid (Is w (.slice ao t.length cap) t) := h
  clear h q0
  have hmm := @run_makeMap Tryd.prog
  go_enter Tryd.func15, Tryd.ntmps15
  go_wp2
  go_loopw [4, 12] (fun x i wr => ∃ (k : Nat) (m : List Int) (D : DataW Unit), k ≤ t.length ∧ i = .int .i64 k ∧ metA [] t = metA m (t.drop k) ∧ m.length ≤ k ∧ OwI wr w.heap.size x (m.map fun c => -1 - c) ∧ wr.ownsMap Tryd.prog 3 unitElem w.heap.size m.length D ∧ (∀ c : Int, Maps.has D (.int .i64 c) = decide (c ∈ m)) ∧ Below w.heap.size w wr) (fun _ i _ => t.length - (intOf i).toNat)
  case atStart => exact ⟨0, [], .map [], Nat.zero_le _, rfl, rfl, Nat.le_refl _, ⟨fun k x hk => (by simp at hk), World.ownsRow_nil _ _ _ _⟩, World.ownsMap_made w _ _ _, fun c => (by simp [Maps.has]), below_alloc _⟩
  case round =>
    obtain ⟨k, m, D, hk, rfl, hme, hml, how, hmap, hhas, hbl⟩ := hrel
    have HMe : Hid (metA [] t = metA m (t.drop k)) := hme
    have HOw : Hid (OwI wr w.heap.size u4 (m.map fun c => -1 - c)) := how
    have HMap : Hid (wr.ownsMap Tryd.prog 3 unitElem w.heap.size m.length D) := hmap
    have HHas : Hid (∀ c : Int, Maps.has D (.int .i64 c) = decide (c ∈ m)) := hhas
    have HB : Hid (Below w.heap.size w wr) := hbl
    clear hme how hmap hhas
    by_cases hlt : k < t.length
    · obtain ⟨g, off, x, rfl, hx1, hx2, hx3, hx4⟩ := (HT.out.kp (Kp.of_below hbl)).at hlt
      have hd : t.drop k = x :: t.drop (k + 1) := drop_get hx1
      have HD : Hid (t.drop k = x :: t.drop (k + 1)) := hd
      clear hx1 hd hbl
      by_cases hx0 : 0 ≤ x
      · have HN : Hid (metA [] t = metA m (t.drop (k + 1))) := by show _ = _; rw [HMe.out, HD.out, metA, if_pos (.inl hx0)]
        go_wp2
        go_roundw
        case rel => exact ⟨k + 1, m, D, by omega, by go_num, HN.out, by omega, HOw.out, HMap.out, HHas.out, HB.out⟩
        case measure => simp [intOf]; omega
      · have HKey : Hid (keyOf Tryd.prog 3 (.int .i64 x) = some (.int .i64 x)) := key_int hx3 hx4
        by_cases hin : x ∈ m
        · have HN : Hid (metA [] t = metA m (t.drop (k + 1))) := by show _ = _; rw [HMe.out, HD.out, metA, if_pos (.inr hin)]
          have hh : Maps.has D (.int .i64 x) = true := by rw [HHas.out, decide_eq_true hin]
          go_wp2_with (first
            | (at_lookup; refine wpList_lookup_own_unit _ rfl _ _ 47 rfl 3 48 set_keyed under_set (zero_unit _) w.heap.size m.length D rfl HMap.out _ _ rfl HKey.out ?_; rw [hh]))
          go_roundw
          case rel => exact ⟨k + 1, m, D, by omega, by go_num, HN.out, by omega, HOw.out.later (below_alloc _), HMap.out.alloc _, HHas.out, below_step HB.out (below_alloc _)⟩
          case measure => simp [intOf]; omega
        · have HN : Hid (metA [] t = metA (m ++ [x]) (t.drop (k + 1))) := by
            show _ = _
            rw [HMe.out, HD.out, metA, if_neg (fun hh => by rcases hh with hh | hh; exact hx0 hh; exact hin hh)]
          have hh : Maps.has D (.int .i64 x) = false := by rw [HHas.out, decide_eq_false hin]
          have hw : IntKind.i64.wrap (-1 - x) = -1 - x := IntWalk.i64_in _ ⟨by omega, by omega⟩
          have hml2 : m.length < maxLen := by unfold maxLen; omega
          have HZ : Hid (-9223372036854775808 ≤ -1 - x ∧ -1 - x ≤ 9223372036854775807) := ⟨by omega, by omega⟩
          go_wp2_with (first
            | (at_lookup; refine wpList_lookup_own_unit _ rfl _ _ 47 rfl 3 48 set_keyed under_set (zero_unit _) w.heap.size m.length D rfl HMap.out _ _ rfl HKey.out ?_; rw [hh])
            | (at_mapUpdate; refine wpList_mapUpdate_in _ rfl _ _ _ 47 rfl 3 48 set_keyed under_set unitElem w.heap.size m.length D rfl (HMap.out.alloc _) hml2 _ _ _ rfl rfl HKey.out (.agg []) [] unitElem_mk ?_; intro w4 hown4 hturn4; have HM4 : Hid (w4.ownsMap Tryd.prog 3 unitElem w.heap.size (m.length + 1) (D.put (.int .i64 x) (.agg []))) := hown4; have HG4 : Hid ((wr.alloc (.cells #[] 48)).grownBy w4 (some w.heap.size)) := hturn4.grown; clear hown4 hturn4)
            | (at_builtin; refine wpList_append_own _ rfl _ _ 27 rfl w.heap.size 3 i1 _ 1 8 under_ints hi1 hy0 hy1 hy2 rfl (by decide) u4 (m.map fun c => -1 - c).length ((m.map fun c => -1 - c).map I64) rfl (vars_row HOw.out HMap.out HG4.out).2 ⟨w4.heap.size, 0, none⟩ 1 1 [.int .i64 (-1 - x)] rfl rfl (cell_int_new _ _) (by intro u hu; simp at hu; subst hu; rfl) (by rw [List.length_map]; unfold maxLen; omega) (by rw [List.length_map]; omega) (Nat.le_trans (Nat.le_trans HB.out.size (below_alloc _).size) (Nat.le_trans HG4.out.size (below_alloc _).size)) ?_; intro v5 w5 hown5 hgrow5 _))
          have HFin := vars_next (H := Unit) (b := w.heap.size) HB.out HOw.out HMap.out HHas.out HG4.out HM4.out hown5 hgrow5 HZ.out
          clear hown5 hgrow5
          try go_wp2
          go_roundw
          case rel => exact ⟨k + 1, m ++ [x], _, by omega, by go_num, HN.out, by rw [List.length_append, List.length_singleton]; omega, HFin.out.1, HFin.out.2.1, HFin.out.2.2.1, HFin.out.2.2.2⟩
          case measure => simp [intOf]; omega
    · have hke : k = t.length := by omega
      have HF : Hid (varsL t = m.map fun c => -1 - c) := by show _ = _; unfold varsL; rw [HMe.out, List.drop_of_length_le (by omega)]; rfl
      clear hbl
      go_wp2
      go_ret
      exact ⟨_, rfl, by rw [HF.out]; exact HOw.out, HB.out⟩

end Go.Proofs.YtjcgngfidnechaaDoor
