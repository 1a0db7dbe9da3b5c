/- What Shift, and the document's Shift, answer. -/
import Derived.Test.YtifpanfgojfbkaaDoorTShift
import Derived.Shelf.Abstract
namespace Go.Proofs.YtifpanfgojfbkaaDoor
open Go.RowKit Go.Maps

def okShift (d : Int) (t : List Int) : Bool := t.all fun c => !decide (c < 0) || isVarB (-1 - c + d)
def shiftE (d : Int) (t : List Int) : Int := if okShift d t = true then 0 else 40
def shiftL (d : Int) (t : List Int) : List Int := if okShift d t = true then t.map (fun c => if c < 0 then c - d else c) else []

theorem mem_metA : ∀ {t m : List Int} {c : Int}, c ∈ metA m t ↔ c ∈ m ∨ (c ∈ t ∧ c < 0)
  | [], m, c => by simp [metA]
  | a :: t, m, c => by
    unfold metA
    split
    · rename_i h
      rw [mem_metA]
      constructor
      · rintro (h1 | ⟨h1, h2⟩)
        · exact .inl h1
        · exact .inr ⟨List.mem_cons_of_mem _ h1, h2⟩
      · rintro (h1 | ⟨h1, h2⟩)
        · exact .inl h1
        · rcases List.mem_cons.1 h1 with rfl | h1
          · rcases h with h | h
            · omega
            · exact .inl h
          · exact .inr ⟨h1, h2⟩
    · rename_i h
      rw [mem_metA]
      constructor
      · rintro (h1 | ⟨h1, h2⟩)
        · rcases List.mem_append.1 h1 with h1 | h1
          · exact .inl h1
          · simp at h1
            subst h1
            exact .inr ⟨by simp, by have := fun hh => h (.inl hh); omega⟩
        · exact .inr ⟨List.mem_cons_of_mem _ h1, h2⟩
      · rintro (h1 | ⟨h1, h2⟩)
        · exact .inl (List.mem_append.2 (.inl h1))
        · rcases List.mem_cons.1 h1 with rfl | h1
          · exact .inl (by simp)
          · exact .inr ⟨h1, h2⟩

theorem mem_varsL {t : List Int} {x : Int} : x ∈ varsL t ↔ ∃ c ∈ t, c < 0 ∧ x = -1 - c := by
  unfold varsL
  rw [List.mem_map]
  constructor
  · rintro ⟨c, hc, rfl⟩
    rcases mem_metA.1 hc with h | ⟨h, h2⟩
    · cases h
    · exact ⟨c, h, h2, rfl⟩
  · rintro ⟨c, hc, h2, rfl⟩
    exact ⟨c, mem_metA.2 (.inr ⟨hc, h2⟩), rfl⟩

theorem okShift_vars {d : Int} {t : List Int} : okShift d t = true ↔ ∀ x ∈ varsL t, isVarB (x + d) = true := by
  unfold okShift
  rw [List.all_eq_true]
  constructor
  · intro h x hx
    obtain ⟨c, hc, h2, rfl⟩ := mem_varsL.1 hx
    have := h c hc
    rw [decide_eq_true h2] at this
    simpa using this
  · intro h c hc
    by_cases h2 : c < 0
    · rw [decide_eq_true h2, h _ (mem_varsL.2 ⟨c, hc, h2, rfl⟩)]
      rfl
    · rw [decide_eq_false h2]
      rfl

theorem isVarB_iff {n : Int} : isVarB n = true ↔ 0 ≤ n ∧ n < 1048576 := by
  unfold isVarB
  rw [Bool.and_eq_true, decide_eq_true_eq, decide_eq_true_eq]

theorem isVar_wrap {x d : Int} (h1 : 0 ≤ x) (h2 : x ≤ 9223372036854775807) (h3 : -9223372036854775808 ≤ d) (h4 : d ≤ 9223372036854775807) : isVarB (wrap64 (x + d)) = isVarB (x + d) := by
  by_cases h : x + d ≤ 9223372036854775807
  · rw [IntWalk.wrap64_in _ ⟨by omega, h⟩]
  · have e : wrap64 (x + d) = x + d - 18446744073709551616 := by unfold wrap64; omega
    rw [e]
    have a : isVarB (x + d - 18446744073709551616) = false := by rw [Bool.eq_false_iff]; intro hh; have := isVarB_iff.1 hh; omega
    have b : isVarB (x + d) = false := by rw [Bool.eq_false_iff]; intro hh; have := isVarB_iff.1 hh; omega
    rw [a, b]

theorem renG_shift (d : Int) : ∀ t : List Int, (renG (fun (_ : Unit) n => (n + d, ())) () t).1 = t.map fun c => if c < 0 then c - d else c
  | [] => rfl
  | c :: t => by
    unfold renG
    by_cases h : c < 0
    · rw [if_pos h, List.map_cons, if_pos h, renG_shift d t]
      show (-1 - (-1 - c + d)) :: _ = _
      rw [show -1 - (-1 - c + d) = c - d by omega]
    · rw [if_neg h, List.map_cons, if_neg h, renG_shift d t]

theorem shiftFn_any (n d : Int) (g : Nat) (w : World) (h : w.cell? ⟨g, 0, none⟩ = some (.int .i64 d)) (hn : -9223372036854775808 ≤ n + d ∧ n + d ≤ 9223372036854775807) :
    Calls Tryd.prog 35 #[.int .i64 n, .pointer (some ⟨g, 0, none⟩)] w fun e w' => e = .returned (.int .i64 (n + d)) ∧ w' = w := by
  have hw : IntKind.i64.wrap (n + d) = n + d := IntWalk.i64_in _ hn
  go_enter Tryd.func35, Tryd.ntmps35
  go_wp2
  go_ret
  exact ⟨rfl, rfl⟩

theorem enterShift : ∀ args w, (callFunc 35 args).run Tryd.prog w = .ok (.enter 35 args) w := enters_of Tryd.func35 (by kernel_rfl) rfl

set_option maxRecDepth 100000 in
set_option maxHeartbeats 1600000 in
theorem shift_any (v : Value) (t : List Int) (d : Int) (w : World) (h : Is w v t) (hb : t.length * 8 ≤ 140737488351232) (hd1 : -9223372036854775808 ≤ d) (hd2 : d ≤ 9223372036854775807) :
    Calls Tryd.prog 17 #[v, .int .i64 d] w fun e w' => ∃ v', e = .returned (.tuple #[v', .int .i64 (shiftE d t)]) ∧ OwI w' w.heap.size v' (shiftL d t) ∧ Below w.heap.size w w' := by
  obtain ⟨ao, cap, rfl, hao, hca, q0⟩ := Row.flat h
  unfold maxLen at hca
  have HT : Hid (Is w (.slice ao t.length cap) t) := h
  have HZt : Hid (ZI t) := h.range
  clear h q0
  go_enter Tryd.func17, Tryd.ntmps17
  go_wp2_with fail
  refine (vars_any _ t _ (HT.out.kp (Kp.of_below (below_alloc _))) hb).mono ?_
  rintro e w1 ⟨v1, rfl, ho1, hb1⟩
  obtain ⟨bo, cap', rfl, hbo, hcb⟩ := ho1.shape
  unfold maxLen at hcb
  have hx0 : w1.cell? ⟨w.heap.size, 0, none⟩ = some (.int .i64 d) := (Kp.of_below hb1).cell _ _ (by rw [cell_of_row _ _ _ _ _ _ (heap_alloc_new _ _)]; rfl)
  have hszb : w.heap.size < w1.heap.size := Nat.lt_of_lt_of_le (by simp) hb1.size
  have HO : Hid (Is w1 (.slice bo (varsL t).length cap') (varsL t)) := ho1.is
  have HX0 : Hid (w1.cell? ⟨w.heap.size, 0, none⟩ = some (.int .i64 d)) := hx0
  have HB1 : Hid (Below w.heap.size w w1) := below_step (below_alloc _) hb1
  clear ho1 hb1
  go_wp2
  go_loopw [11] (fun i wr => ∃ k : Nat, k ≤ (varsL t).length ∧ i = .int .i64 k ∧ (∀ (j : Nat) (x : Int), j < k → (varsL t)[j]? = some x → isVarB (x + d) = true) ∧ wr = w1) (fun i _ => (varsL t).length - (intOf i).toNat)
  case atStart => exact ⟨0, Nat.zero_le _, rfl, fun j x hj => absurd hj (by omega), rfl⟩
  case round =>
    obtain ⟨k, hk, rfl, hall, hw1⟩ := hrel
    have hw8 := hw1.symm
    subst hw8
    have HAll : Hid (∀ (j : Nat) (x : Int), j < k → (varsL t)[j]? = some x → isVarB (x + d) = true) := hall
    clear hall hw1
    by_cases hlt : k < (varsL t).length
    · obtain ⟨g, off, x, rfl, hx1, hx2, hx3, hx4⟩ := HO.out.at hlt
      have HX : Hid ((varsL t)[k]? = some x) := hx1
      have hx0' : 0 ≤ x := by
        obtain ⟨c, _, h2, rfl⟩ := mem_varsL.1 (List.mem_of_getElem? hx1)
        omega
      have hwr := isVar_wrap hx0' hx4 hd1 hd2
      clear hx1
      cases hv : isVarB (x + d)
      · have HF : Hid (shiftE d t = 40 ∧ shiftL d t = []) := by
          have : ¬ okShift d t = true := fun hh => by
            have := okShift_vars.1 hh x (List.mem_of_getElem? HX.out)
            rw [hv] at this
            cases this
          unfold shiftE shiftL
          rw [if_neg this, if_neg this]
          exact ⟨rfl, rfl⟩
        rw [hv] at hwr
        go_wp2_with fail
        refine (isVariable_any _ _).mono ?_
        rw [hwr]
        rintro e w9 ⟨rfl, hw9⟩
        have hw8 := hw9.symm
        subst hw8
        clear hw9 hwr
        go_wp2
        go_ret2
        exact ⟨_, ret2i HF.out.1.symm, by rw [HF.out.2]; exact ⟨fun k x hk => (by simp at hk), World.ownsRow_nil _ _ _ _⟩, HB1.out⟩
      · rw [hv] at hwr
        have HVx : Hid (isVarB (x + d) = true) := hv
        go_wp2_with fail
        refine (isVariable_any _ _).mono ?_
        rw [hwr]
        rintro e w9 ⟨rfl, hw9⟩
        have hw8 := hw9.symm
        subst hw8
        clear hw9 hwr hv
        go_wp2
        go_roundw
        case rel =>
          refine ⟨k + 1, by omega, by go_num, fun j y hj hy => ?_, trivial⟩
          by_cases hjk : j = k
          · subst hjk; rw [HX.out] at hy; cases hy; exact HVx.out
          · exact HAll.out j y (by omega) hy
        case measure => simp [intOf]; omega
    · have HOk : Hid (okShift d t = true) := by
        refine okShift_vars.2 fun x hx => ?_
        obtain ⟨j, hj⟩ := List.mem_iff_getElem?.1 hx
        exact HAll.out j x (by have := (List.getElem?_eq_some_iff.1 hj).1; omega) hj
      go_wp2_with fail
      obtain ⟨gb, hgb⟩ : ∃ gb, gb = w.heap.size := ⟨_, rfl⟩
      rw [← hgb] at hszb HX0 ⊢
      refine (renumber_any (σ := Unit) (fun w _ => w.cell? ⟨gb, 0, none⟩ = some (.int .i64 d)) (fun _ n => (n + d, ())) (fun n => isVarB (n + d) = true) gb 35 (.pointer (some ⟨gb, 0, none⟩)) (.slice ao t.length cap) t () _ (fun _ => 0) (fun _ _ => by omega) hszb HX0.out hb ?_ ?_ ?_ ?_ ?_ enterShift).mono ?_
      · intro a b _ r ha hg hr _ hlt
        rw [World.cell?_of_block (hg.block gb hlt (fun e => hr e.symm))]
        exact ha
      · intro w' hg
        refine HT.out.kp ⟨Nat.le_trans HB1.out.size hg.size, fun a v hv => ?_⟩
        have hlt := World.block_lt_of_cell? w a hv
        rw [World.cell?_of_block (hg.block a.block (Nat.lt_of_lt_of_le hlt HB1.out.size) (by simp; omega))]
        exact (Kp.of_below HB1.out).cell _ _ hv
      · intro n _ a hn ha _
        have := isVarB_iff.1 hn
        exact (shiftFn_any n d gb a ha ⟨by omega, by omega⟩).mono (fun e w2 ⟨he, hw⟩ => ⟨he, by rw [hw]; exact ha, by rw [hw]; exact World.grownBy.refl _ _⟩)
      · intro _ n _ hn _ _
        have := isVarB_iff.1 hn
        simp only
        omega
      · intro c hc h0
        exact okShift_vars.1 HOk.out _ (mem_varsL.2 ⟨c, hc, h0, rfl⟩)
      · rintro e w2 ⟨v2, rfl, ho2, _, hg2⟩
        have HF : Hid (shiftE d t = 0 ∧ shiftL d t = t.map fun c => if c < 0 then c - d else c) := by
          unfold shiftE shiftL
          rw [if_pos HOk.out, if_pos HOk.out]
          exact ⟨rfl, rfl⟩
        rw [renG_shift] at ho2
        have HO2 : Hid (OwI w2 w.heap.size v2 (shiftL d t)) := by
          show OwI _ _ _ _
          rw [HF.out.2]
          exact ho2.mono HB1.out.size
        have HB2 : Hid (Below w.heap.size w w2) := HB1.out.grown hg2 HB1.out.size (fun j hj => by cases hj; omega)
        clear ho2 hg2 hgb
        go_wp2
        go_ret2
        exact ⟨_, ret2i HF.out.1.symm, HO2.out, HB2.out⟩

end Go.Proofs.YtifpanfgojfbkaaDoor
