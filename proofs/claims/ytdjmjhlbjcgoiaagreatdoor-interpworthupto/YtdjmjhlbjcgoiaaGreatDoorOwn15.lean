/- Texts of the proof, one behind the other. -/
import Derived.Test.YtdjmjhlbjcgoiaaGreatDoorOwn5
import Derived.Deep.LoopGhost
import Derived.Test.YtdjmjhlbjcgoiaaGreatDoorOwn14
import Derived.Lib.AppendZeros
import Derived.Test.YtdjmjhlbjcgoiaaGreatDoorOwn10
import Derived.Test.YtdjmjhlbjcgoiaaGreatDoorOwn4
import Derived.Test.YtdjmjhlbjcgoiaaGreatDoorOwn12
import Derived.Test.YtdjmjhlbjcgoiaaGreatDoorOwn3
import Derived.Shelf.Strings.Prefix
import Derived.Test.YtdjmjhlbjcgoiaaGreatDoorOwn13
/- slices.Grow, slices.Concat walked. -/
namespace Go.Proofs.YtdjmjhlbjcgoiaaGreatDoor
open Go.RowKit Go.Maps Go.BigFrame

theorem wpList_append_run2 {P : Program} {w w' : World} {ops : Array Oper} {rest : List Oper} {o : Oper} {a : Act} {v' : Value} {Q : Exit → Act → World → Prop} (hgd : o.guard = none) (s x : Operand) (t t2 : TypeId)
    (ho : o.op = .call { callee := .builtin .append, args := #[s, x], argTypes := #[t, t2] }) (v u : Value) (hs : a.eval s = v) (hx : a.eval x = u)
    (hr : (Builtin.append_ #[t, t2] o.type #[v, u]).run P w = .ok v' w') (h : wpList P ops Q rest (a.put o.dst v') w') : wpList P ops Q (o :: rest) a w := by
  refine wpList_plain hgd fun K hK => ?_
  unfold Oper.wp execOp
  simp only [ho, resolve, invoke, builtin, Sem.run_bind, Sem.run_pure, Result.andThen_ok, List.map_toArray, List.map_cons, List.map_nil, hs, hx, hr]
  exact hK _ _ h

theorem zeroI_cells (n : Nat) : (Builtin.zeroCells (Value.int .i64 0).cells n).size = n := by
  simp [Builtin.zeroCells, Value.cells]

set_option maxRecDepth 100000 in
theorem growS_any (n : Nat) (w : World) (h : n * 8 ≤ 140737488355328) :
    Calls Tryz.prog 153 #[.slice none 0 0, .int .i64 n] w fun e w' => ∃ v', e = .returned v' ∧ OwI w' w.heap.size v' [] ∧ Below w.heap.size w w' := by
  obtain ⟨i0, hi, hz0, hz1, hz2⟩ := info_parts info_int
  by_cases h0 : n = 0
  · subst h0
    go_enter Tryz.func153, Tryz.ntmps153
    go_wp2
    go_ret
    exact ⟨_, rfl, nilI _ _, Below.refl _ _⟩
  · have hn1 : ¬ (n : Int) < 0 := by omega
    have hn2 : (0 : Int) < (n : Int) := by omega
    have hr := Lib.run_append_nil_zeros (P := Tryz.prog) w 30 3 30 3 i0 (.int .i64 0) .i64 .i64 under_ints (by kernel_rfl) hi hz0 n (by omega) (by rw [hz1]; decide) (by omega) (by rw [hz2]; omega)
    obtain ⟨C, hC⟩ : ∃ C, C = grownCap w n 0 3 := ⟨_, rfl⟩
    rw [← hC] at hr
    have HR := hid hr
    have HC : Hid (n ≤ C ∧ C ≤ maxLen) := by
      rw [hC]
      exact ⟨grownCap_ge _ _ _ _, grownCap_le_maxLen _ _ _ _ (by unfold maxLen; omega)⟩
    clear hr hC
    go_enter Tryz.func153, Tryz.ntmps153
    go_wp2_with (first
      | (at_builtin; refine wpList_append_run2 rfl _ _ _ _ rfl _ _ rfl rfl HR.out ?_))
    go_ret
    refine ⟨_, rfl, ⟨fun k x hk => (by simp at hk), rfl, .inr ⟨w.heap.size, C, _, rfl, Nat.le_refl _, heap_alloc_new _ _, Nat.zero_le _, HC.out.2, ?_, rfl⟩⟩, below_step (below_alloc _) (drawn_below1 _)⟩
    have h1 := zeroI_cells n
    have h2 := zeroI_cells (C - n)
    simp only [Value.cells] at h1 h2
    have := HC.out.1
    rw [Array.size_append, h1, h2]
    omega

theorem sumT_take {l : List (List Int)} {k : Nat} {r : List Int} (h : l[k]? = some r) : ((l.take (k + 1)).map List.length).sum = ((l.take k).map List.length).sum + r.length := by
  rw [take_get h, List.map_append, List.sum_append]
  simp

theorem sumT_le (l : List (List Int)) (k : Nat) : ((l.take k).map List.length).sum ≤ (l.map List.length).sum := by
  have : (l.map List.length).sum = ((l.take k).map List.length).sum + ((l.drop k).map List.length).sum := by
    rw [← List.sum_append, ← List.map_append, List.take_append_drop]
  omega

theorem flat_len (l : List (List Int)) : l.flatten.length = (l.map List.length).sum := List.length_flatten

set_option maxRecDepth 100000 in
set_option maxHeartbeats 1600000 in
theorem concat_any (v : Value) (l : List (List Int)) (w : World) (h : Rs w v l) (hl : (l.map List.length).sum * 8 ≤ 140737488355328) :
    Calls Tryz.prog 102 #[v] w fun e w' => ∃ v', e = .returned v' ∧ OwI w' w.heap.size v' l.flatten ∧ Below w.heap.size w w' := by
  obtain ⟨ao, cap, rfl, hao, hca, q0⟩ := Row.flat h
  unfold maxLen at hca
  have HR := hid h
  clear h q0
  go_enter Tryz.func102, Tryz.ntmps102
  go_wp2
  go_loopw [3, 11] (fun x i wr => ∃ k : Nat, k ≤ l.length ∧ i = .int .i64 k ∧ x = .int .i64 ((((l.take k).map List.length).sum : Nat) : Int) ∧ wr = w) (fun _ i _ => l.length - (intOf i).toNat)
  case atStart => exact ⟨0, Nat.zero_le _, rfl, rfl, rfl⟩
  case round =>
    obtain ⟨k, hk, rfl, rfl, hw⟩ := hrel
    have hw8 := hw.symm
    subst hw8
    clear hw
    have hsl := sumT_le l k
    have hsl1 := sumT_le l (k + 1)
    by_cases hlt : k < l.length
    · obtain ⟨g, off, a, r, c, rfl, hm, hc0, hir, hrl⟩ := HR.out.at hlt
      have hst := sumT_take hm
      have HSt := hid hst
      obtain ⟨S, hS⟩ : ∃ S, S = ((l.take k).map List.length).sum := ⟨_, rfl⟩
      rw [← hS] at hsl hst HSt ⊢
      have hw1 : IntKind.i64.wrap ((S : Int) + (r.length : Int)) = ((S + r.length : Nat) : Int) := by rw [IntWalk.i64_in _ ⟨by omega, by omega⟩]; omega
      have hn0 : ¬ ((S + r.length : Nat) : Int) < 0 := by omega
      clear hm hir hS
      go_wp2
      go_roundw
      case rel => exact ⟨k + 1, by omega, by go_num, by rw [HSt.out]; exact congrArg (Value.int .i64) (by omega), trivial⟩
      case measure => simp [intOf]; omega
    · have hke : k = l.length := by omega
      subst hke
      rw [List.take_length]
      have HG := hid (growS_any (l.map List.length).sum w hl)
      go_wp2_with fail
      refine HG.out.mono ?_
      rintro e w1 ⟨v1, rfl, ho1, hb1⟩
      have HO1 := hid ho1
      have HB1 := hid hb1
      clear ho1 hb1 HG hsl hsl1 hlt hk
      go_wp2
      go_loopw [6, 27] (fun x i wr => ∃ k : Nat, k ≤ l.length ∧ i = .int .i64 k ∧ OwI wr w.heap.size x (l.take k).flatten ∧ Below w.heap.size w wr) (fun _ i _ => l.length - (intOf i).toNat)
      case atStart => exact ⟨0, Nat.zero_le _, rfl, HO1.out, HB1.out⟩
      case round =>
        obtain ⟨k, hk, rfl, how, hbl⟩ := hrel
        have HO := hid how
        have HB := hid hbl
        have hsl := sumT_le l k
        have hsl1 := sumT_le l (k + 1)
        clear how
        by_cases hlt : k < l.length
        · obtain ⟨g, off, a, r, c, rfl, hm, hc0, hir, hrl⟩ := (HR.out.kp (Kp.of_below hbl)).at hlt
          have hst := sumT_take hm
          have HFl : Hid ((l.take (k + 1)).flatten = (l.take k).flatten ++ r) := by
            show _ = _
            rw [take_get hm, List.flatten_append]
            simp
          obtain ⟨v4, w4, hr4, ho4, hg4⟩ := join_ints 30 HO.out hir HB.out.size (by rw [flat_len]; omega)
          have HR4 := hid hr4
          have HO4 := hid ho4
          have HB4 : Hid (Below w.heap.size w w4) := HB.out.grown hg4 HB.out.size (fun j hj => own_blk HO.out.2 hj)
          clear hm hir hr4 ho4 hg4 hst hbl
          go_wp2_with (first
            | (at_builtin; refine wpList_append_run rfl _ _ _ rfl _ _ rfl rfl HR4.out ?_))
          go_roundw
          case rel => exact ⟨k + 1, by omega, by go_num, by rw [HFl.out]; exact HO4.out, HB4.out⟩
          case measure => simp [intOf]; omega
        · have hke : k = l.length := by omega
          subst hke
          rw [List.take_length] at HO
          go_wp2
          go_ret
          exact ⟨_, rfl, HO.out, HB.out⟩

end Go.Proofs.YtdjmjhlbjcgoiaaGreatDoor

/- Package interp's Of, sides and Falls. -/
namespace Go.Proofs.YtdjmjhlbjcgoiaaGreatDoor
open Go.RowKit Go.Maps Go.BigFrame

theorem vars_mem12 {t : List Int} {c : Int} (hc : c ∈ t) (h0 : c < 0) : -1 - c ∈ varsL t := by
  unfold varsL
  exact List.mem_map.2 ⟨c, (metA_mem t [] c).2 (.inr ⟨hc, h0⟩), rfl⟩

theorem vars_of12 {t : List Int} {v : Int} (h : v ∈ varsL t) : ∃ c ∈ t, c < 0 ∧ v = -1 - c := by
  unfold varsL at h
  obtain ⟨c, hc, rfl⟩ := List.mem_map.1 h
  rcases (metA_mem t [] c).1 hc with h | ⟨h1, h2⟩
  · cases h
  · exact ⟨c, h1, h2, rfl⟩

theorem vars_nodup12 (t : List Int) : (varsL t).Nodup := by
  unfold varsL
  have h := met_once t [] List.nodup_nil
  rw [List.nodup_iff_pairwise_ne] at h ⊢
  rw [List.pairwise_map]
  exact h.imp (fun {a b} hne e => hne (by omega))

theorem vars_ok12 {sig : List Sy} {t : List Int} (h : rowE sig t = 0) : ∀ v ∈ varsL t, 0 ≤ v ∧ v ≤ 1048576 := fun v hv => by
  obtain ⟨c, hc, h0, rfl⟩ := vars_of12 hv
  have := codes_of h hc
  omega

theorem Ins.lim {w : World} {v : Value} {l : List Ip} (h : Ins w v l) : ∀ x ∈ l, ∀ m ∈ x.2, Lim m.1 := by
  intro x hx
  obtain ⟨k, hk⟩ := List.mem_iff_getElem?.1 hx
  obtain ⟨ao, cap, rfl, _, _, hf⟩ := Row.flat h
  obtain ⟨g, off, y, _, hk2, hy⟩ := hf k (List.getElem?_eq_some_iff.1 hk).1
  rw [hk] at hk2
  cases hk2
  obtain ⟨_, _, _, pv, _, hms⟩ := hy
  exact hms.limA

theorem termE_zero {sig : List Sy} {t : List Int} (h : termE sig t = 0) : sigE sig = 0 ∧ rowE sig t = 0 := term_parts h

set_option maxRecDepth 100000 in
set_option maxHeartbeats 6400000 in
theorem interpOf_any (sv lv tv : Value) (sig : List Sy) (l : List Ip) (t : List Int) (w : World) (hs : Sg w sv sig) (hl : Ins w lv l) (ht : Is w tv t) (hT : Tabs w) (hb : t.length * 24 ≤ 140737488351232) :
    Calls Tryz.prog 16 #[sv, lv, tv] w fun e w' => (∃ v', e = .returned (.tuple #[v', .int .i64 (ofPE sig l t)]) ∧ OM w' w.heap.size v' (ofPL sig l t)) ∧ Below w.heap.size w w' := by
  have HCk := hid (inCheck_any sv lv sig l w hs hl hT)
  obtain ⟨so, sc, rfl, hso, hsc, _⟩ := Row.flat hs
  obtain ⟨lo, lc, rfl, hlo, hlc, _⟩ := Row.flat hl
  obtain ⟨ta, tc, rfl, hto, htc, _⟩ := Row.flat ht
  unfold maxLen at hsc hlc htc
  have HS := hid hs
  have HL := hid hl
  have HI := hid ht
  have HT := hid hT
  have HLim := hid hl.lim
  clear hs hl ht hT
  go_enter Tryz.func16, Tryz.ntmps16
  go_wp2_with fail
  refine HCk.out.mono ?_
  rintro e w1 ⟨rfl, hb1⟩
  have B1 := hid hb1
  clear hb1 HCk
  by_cases hE : inE sig l = 0
  · have HIn := hid hE
    have HR : Hid (ofPE sig l t = if termE sig t = 0 then ovE (ofV sig l (varsL t) t) else termE sig t) := by show _ = _; unfold ofPE; rw [if_pos hE]
    have HRL : Hid (ofPL sig l t = if termE sig t = 0 then ovL (ofV sig l (varsL t) t) else []) := by
      show _ = _
      unfold ofPL
      by_cases h : termE sig t = 0
      · rw [if_pos ⟨hE, h⟩, if_pos h]
      · rw [if_neg (fun h9 => h h9.2), if_neg h]
    rw [hE]
    clear hE
    go_wp2_with fail
    refine (check_any _ _ sig t w1 (HS.out.kp (Kp.of_below B1.out)) (HI.out.kp (Kp.of_below B1.out)) (HT.out.below B1.out) (by omega)).mono ?_
    rintro e w2 ⟨rfl, hb2⟩
    have B2 := hid (below_step B1.out hb2)
    clear hb2 B1
    by_cases hE2 : termE sig t = 0
    · have HTe := hid hE2
      have HR2 : Hid (ofPE sig l t = ovE (ofV sig l (varsL t) t)) := by show _ = _; rw [HR.out, if_pos hE2]
      have HR3 : Hid (ofPL sig l t = ovL (ofV sig l (varsL t) t)) := by show _ = _; rw [HRL.out, if_pos hE2]
      rw [hE2]
      clear hE2 HR HRL
      go_wp2_with fail
      refine (vars_any _ t w2 (HI.out.kp (Kp.of_below B2.out)) (by omega)).mono ?_
      rintro e w3 ⟨vv, rfl, hov, hb3⟩
      have B3 := hid (below_step B2.out hb3)
      have HV := hid hov.is
      obtain ⟨va, vc, rfl, hva, hvc⟩ := hov.shape
      clear hov hb3 B2
      by_cases hbig : 512 < (varsL t).length
      · have HNo : Hid (ofV sig l (varsL t) t = none) := by show _ = _; unfold ofV; rw [if_pos hbig]
        go_wp2_with fail
        refine (newMeaning_big _ _ _ (varsL t) w3 HV.out hbig).mono ?_
        rintro e w4 ⟨rfl, hb4⟩
        have B4 := hid (below_step B3.out hb4)
        clear hb4 B3 hbig
        go_wp2
        go_ret2
        rw [HR2.out, HR3.out, HNo.out]
        exact ⟨⟨_, rfl, OM.nil _ _⟩, below_step B4.out (below_alloc _)⟩
      · have hsm : (varsL t).length ≤ 512 := by omega
        go_wp2_with fail
        refine (newMeaning_any _ _ _ sig l (varsL t) w3 (HS.out.kp (Kp.of_below B3.out)) (HL.out.kp (Kp.of_below B3.out)) HV.out HIn.out (vars_nodup12 t) (vars_ok12 (termE_zero HTe.out).2) hsm (sigE_len (termE_zero HTe.out).1)).mono ?_
        rintro e w4 ⟨gS, b, rfl, hM, hb4⟩
        have B4 := hid (below_step B3.out hb4)
        have hb3 := B3.out.size
        have hb34 := hb4.size
        have HM := hid hM
        clear hb4 hM hbig
        have hB5 := below_alloc (w := w4) (.cells #[.slice so sig.length sc, .slice (some ⟨gS, 0, none⟩) sig.length sig.length, .map (some b)] 85)
        obtain ⟨W5, hW5⟩ : ∃ X, X = w4.alloc (.cells #[.slice so sig.length sc, .slice (some ⟨gS, 0, none⟩) sig.length sig.length, .map (some b)] 85) := ⟨_, rfl⟩
        have y0 : W5.cell? ⟨w4.heap.size, 0, none⟩ = some (.slice so sig.length sc) := by rw [hW5, cell_of_row _ _ _ _ _ _ (heap_alloc_new _ _)]; rfl
        have y1 : W5.cell? ⟨w4.heap.size, 1, none⟩ = some (.slice (some ⟨gS, 0, none⟩) sig.length sig.length) := by rw [hW5, cell_of_row _ _ _ _ _ _ (heap_alloc_new _ _)]; rfl
        have y2 : W5.cell? ⟨w4.heap.size, 2, none⟩ = some (.map (some b)) := by rw [hW5, cell_of_row _ _ _ _ _ _ (heap_alloc_new _ _)]; rfl
        rw [← hW5] at hB5
        have B5 := hid (below_step B4.out hB5)
        have HM5 := hid (HM.out.later hB5)
        have hsz : w3.heap.size ≤ W5.heap.size := Nat.le_trans hb34 hB5.size
        go_upto_region 8 with fail
        rw [← hW5]
        clear hW5 hB5 HM
        go_wp2_with fail
        refine (meaningOf_any _ _ sig l (varsL t) t w3.heap.size gS b W5 (HS.out.kp (Kp.of_below B5.out)) (HI.out.kp (Kp.of_below B5.out)) HM5.out hsz HIn.out HLim.out (termE_zero HTe.out).2 (fun c hc h0 => vars_mem12 hc h0) (vars_nodup12 t) hsm (by omega)).mono ?_
        rintro e w6 ⟨⟨v6, rfl, ho6⟩, hb6⟩
        have B6 := hid (below_step B5.out hb6)
        have HO6 := hid (ho6.mono hb3)
        clear ho6 hb6 y0 y1 y2 HM5
        go_wp2
        go_ret2
        rw [HR2.out, HR3.out]
        exact ⟨⟨_, rfl, HO6.out⟩, B6.out⟩
    · have HR2 : Hid (ofPE sig l t = termE sig t) := by show _ = _; rw [HR.out, if_neg hE2]
      have HR3 : Hid (ofPL sig l t = []) := by show _ = _; rw [HRL.out, if_neg hE2]
      have hne : (termE sig t != 0) = true := by rw [bne_iff_ne]; exact hE2
      clear hE2 HR HRL
      generalize termE sig t = z at hne HR2 ⊢
      go_wp2
      go_ret2
      rw [HR2.out, HR3.out]
      exact ⟨⟨_, rfl, OM.nil _ _⟩, B2.out⟩
  · have HR2 : Hid (ofPE sig l t = inE sig l) := by show _ = _; unfold ofPE; rw [if_neg hE]
    have HR3 : Hid (ofPL sig l t = []) := by show _ = _; unfold ofPL; rw [if_neg (fun h9 => hE h9.1)]
    have hne : (inE sig l != 0) = true := by rw [bne_iff_ne]; exact hE
    clear hE
    generalize inE sig l = z at hne HR2 ⊢
    go_wp2
    go_ret2
    rw [HR2.out, HR3.out]
    exact ⟨⟨_, rfl, OM.nil _ _⟩, B1.out⟩

set_option maxRecDepth 100000 in
set_option maxHeartbeats 6400000 in
theorem sides_any (sv lv av bv : Value) (sig : List Sy) (l : List Ip) (a b : List Int) (w : World) (hs : Sg w sv sig) (hl : Ins w lv l) (ha : Is w av a) (hb : Is w bv b) (hin : inE sig l = 0) (hta : termE sig a = 0) (htb : termE sig b = 0) (hla : a.length * 24 ≤ 70368744175616) (hlb : b.length * 24 ≤ 70368744175616) (vs : List Int) (hvs : varsL (a ++ b) = vs) :
    Calls Tryz.prog 50 #[sv, lv, .agg #[av, bv]] w fun e w' => (∃ v1 v2, e = .returned (.tuple #[v1, v2, .int .i64 (ovE2 (ofV sig l vs a) (ofV sig l vs b))]) ∧ (ovE2 (ofV sig l vs a) (ofV sig l vs b) = 0 → Ms w' v1 (ovL (ofV sig l vs a)) ∧ Ms w' v2 (ovL (ofV sig l vs b)))) ∧ Below w.heap.size w w' := by
  obtain ⟨so, sc, rfl, hso, hsc, _⟩ := Row.flat hs
  obtain ⟨lo, lc, rfl, hlo, hlc, _⟩ := Row.flat hl
  obtain ⟨aa, ac, rfl, hao, hac, _⟩ := Row.flat ha
  obtain ⟨ba, bc, rfl, hbo, hbc, _⟩ := Row.flat hb
  unfold maxLen at hsc hlc hac hbc
  have HS := hid hs
  have HL := hid hl
  have HA := hid ha
  have HB := hid hb
  have HIn := hid hin
  have HTa := hid hta
  have HTb := hid htb
  have HLim := hid hl.lim
  have HVs := hid hvs
  clear hs hl ha hb hin hta htb hvs
  obtain ⟨W0, hW0⟩ : ∃ X, X = w.alloc (.cells #[.slice aa a.length ac, .slice ba b.length bc] 41) := ⟨_, rfl⟩
  have B0 : Hid (Below w.heap.size w W0) := by rw [hW0]; exact below_alloc _
  have r0 : W0.cell? ⟨w.heap.size, 0, none⟩ = some (.slice aa a.length ac) := by rw [hW0, cell_of_row _ _ _ _ _ _ (heap_alloc_new _ _)]; rfl
  have r1 : W0.cell? ⟨w.heap.size, 1, none⟩ = some (.slice ba b.length bc) := by rw [hW0, cell_of_row _ _ _ _ _ _ (heap_alloc_new _ _)]; rfl
  go_enter Tryz.func50, Tryz.ntmps50
  go_upto_region 1 with fail
  rw [← hW0]
  clear hW0
  generalize hgr : w.heap.size = gr at r0 r1 ⊢
  clear hgr
  have hR2 := rs_two (HA.out.kp (Kp.of_below B0.out)) (HB.out.kp (Kp.of_below B0.out)) (by omega) (by omega)
  have hB1 := below_alloc (w := W0) (.cells #[.slice aa a.length ac, .slice ba b.length bc] 30)
  obtain ⟨W1, hW1⟩ : ∃ X, X = W0.alloc (.cells #[.slice aa a.length ac, .slice ba b.length bc] 30) := ⟨_, rfl⟩
  go_wp2_with fail
  rw [← hW1] at hR2 hB1 ⊢
  clear hW1
  refine (concat_any _ [a, b] W1 hR2 (by simp; omega)).mono ?_
  rintro e w2 ⟨cv, rfl, hoc, hb2⟩
  have B2 := hid (below_step (below_step B0.out hB1) hb2)
  have K2 := hid ((Kp.of_below hB1).trans (Kp.of_below hb2))
  have HC : Hid (Is w2 cv (a ++ b)) := by
    have h := hoc.is
    rw [show [a, b].flatten = a ++ b by simp] at h
    exact hid h
  clear hoc hb2 hB1 hR2
  go_wp2_with fail
  refine (vars_any _ (a ++ b) w2 HC.out (by rw [List.length_append]; omega)).mono ?_
  rintro e w3 ⟨vv, rfl, hov, hb3⟩
  have B3 := hid (below_step B2.out hb3)
  have K3 := hid (K2.out.trans (Kp.of_below hb3))
  have HV := hid hov.is
  obtain ⟨va, vc, rfl, hva, hvc⟩ := hov.shape
  clear hov hb3 B2 K2
  rw [HVs.out] at HV hva ⊢
  have HNd : Hid vs.Nodup := by rw [← HVs.out]; exact hid (vars_nodup12 _)
  have HRg : Hid (∀ v ∈ vs, 0 ≤ v ∧ v ≤ 1048576) := fun v hv => by
    rw [← HVs.out] at hv
    obtain ⟨c, hc, h0, rfl⟩ := vars_of12 hv
    rcases List.mem_append.1 hc with h | h
    · have := codes_of (termE_zero HTa.out).2 h
      omega
    · have := codes_of (termE_zero HTb.out).2 h
      omega
  have HMa : Hid (∀ c ∈ a, c < 0 → (-1 - c) ∈ vs) := fun c hc h0 => by rw [← HVs.out]; exact vars_mem12 (List.mem_append.2 (.inl hc)) h0
  have HMb : Hid (∀ c ∈ b, c < 0 → (-1 - c) ∈ vs) := fun c hc h0 => by rw [← HVs.out]; exact vars_mem12 (List.mem_append.2 (.inr hc)) h0
  by_cases hbig : 512 < vs.length
  · have HNa : Hid (ofV sig l vs a = none) := by show _ = _; unfold ofV; rw [if_pos hbig]
    have HZ : Hid (ovE2 (ofV sig l vs a) (ofV sig l vs b) = 2) := by show _ = _; rw [HNa.out]; rfl
    go_wp2_with fail
    refine (newMeaning_big _ _ _ vs w3 HV.out hbig).mono ?_
    rintro e w4 ⟨rfl, hb4⟩
    have B4 := hid (below_step B3.out hb4)
    clear hb4 B3 hbig
    go_wp2
    go_ret3
    rw [HZ.out]
    exact ⟨⟨_, _, rfl, fun h => absurd h (by decide)⟩, below_step B4.out (below_alloc _)⟩
  · have hsm : vs.length ≤ 512 := by omega
    go_wp2_with fail
    refine (newMeaning_any _ _ _ sig l vs w3 (HS.out.kp (Kp.of_below B3.out)) (HL.out.kp (Kp.of_below B3.out)) HV.out HIn.out HNd.out HRg.out hsm (sigE_len (termE_zero HTa.out).1)).mono ?_
    rintro e w4 ⟨gS, mb, rfl, hM, hb4⟩
    have B4 := hid (below_step B3.out hb4)
    have K4 := hid (K3.out.trans (Kp.of_below hb4))
    have hb34 := hb4.size
    have HM := hid hM
    clear hb4 hM hbig B3 K3
    have hB5 := below_alloc (w := w4) (.cells #[.slice so sig.length sc, .slice (some ⟨gS, 0, none⟩) sig.length sig.length, .map (some mb)] 85)
    obtain ⟨W5, hW5⟩ : ∃ X, X = w4.alloc (.cells #[.slice so sig.length sc, .slice (some ⟨gS, 0, none⟩) sig.length sig.length, .map (some mb)] 85) := ⟨_, rfl⟩
    have y0 : W5.cell? ⟨w4.heap.size, 0, none⟩ = some (.slice so sig.length sc) := by rw [hW5, cell_of_row _ _ _ _ _ _ (heap_alloc_new _ _)]; rfl
    have y1 : W5.cell? ⟨w4.heap.size, 1, none⟩ = some (.slice (some ⟨gS, 0, none⟩) sig.length sig.length) := by rw [hW5, cell_of_row _ _ _ _ _ _ (heap_alloc_new _ _)]; rfl
    have y2 : W5.cell? ⟨w4.heap.size, 2, none⟩ = some (.map (some mb)) := by rw [hW5, cell_of_row _ _ _ _ _ _ (heap_alloc_new _ _)]; rfl
    rw [← hW5] at hB5
    have B5 := hid (below_step B4.out hB5)
    have HM5 := hid (HM.out.later hB5)
    have hsz : w3.heap.size ≤ W5.heap.size := Nat.le_trans hb34 hB5.size
    have K5 := hid (K4.out.trans (Kp.of_below hB5))
    go_upto_region 2 with fail
    rw [← hW5]
    clear hW5 hB5 HM B4 K4
    generalize w4.heap.size = gc at y0 y1 y2 ⊢
    have q0 := K5.out.cell _ _ r0
    have q1 := K5.out.cell _ _ r1
    clear r0 r1
    go_wp2_with fail
    refine (meaningOf_any _ _ sig l vs a w3.heap.size gS mb W5 (HS.out.kp (Kp.of_below B5.out)) (HA.out.kp (Kp.of_below B5.out)) HM5.out hsz HIn.out HLim.out (termE_zero HTa.out).2 HMa.out HNd.out hsm (by omega)).mono ?_
    rintro e w6 ⟨⟨v6, rfl, ho6⟩, hb6⟩
    have B6 := hid (below_step B5.out hb6)
    have p0 := (Kp.of_below hb6).cell _ _ y0
    have p1 := (Kp.of_below hb6).cell _ _ y1
    have p2 := (Kp.of_below hb6).cell _ _ y2
    have p4 := (Kp.of_below hb6).cell _ _ q1
    have hsz6 := Nat.le_trans hsz hb6.size
    have HM6 := hid (HM5.out.later hb6)
    have HO6 := hid ho6.ms
    clear ho6 hb6 y0 y1 y2 q0 q1 HM5 B5 K5 hsz
    rcases Option.eq_none_or_eq_some (ofV sig l vs a) with ho | ⟨pa, ho⟩
    · have HZ : Hid (ovE2 (ofV sig l vs a) (ofV sig l vs b) = 2) := by show _ = _; rw [ho]; rfl
      have hz : ovE (ofV sig l vs a) = 2 := by rw [ho]; rfl
      rw [hz]
      clear hz ho
      go_wp2
      go_ret3
      rw [HZ.out]
      exact ⟨⟨_, _, rfl, fun h => absurd h (by decide)⟩, B6.out⟩
    · have HZ : Hid (ovE2 (ofV sig l vs a) (ofV sig l vs b) = ovE (ofV sig l vs b)) := by show _ = _; rw [ho]; rfl
      have hz : ovE (ofV sig l vs a) = 0 := by rw [ho]; rfl
      rw [hz]
      clear hz ho
      go_wp2_with fail
      refine (meaningOf_any _ _ sig l vs b w3.heap.size gS mb w6 (HS.out.kp (Kp.of_below B6.out)) (HB.out.kp (Kp.of_below B6.out)) HM6.out hsz6 HIn.out HLim.out (termE_zero HTb.out).2 HMb.out HNd.out hsm (by omega)).mono ?_
      rintro e w7 ⟨⟨v7, rfl, ho7⟩, hb7⟩
      have B7 := hid (below_step B6.out hb7)
      have HO7 := hid ho7.ms
      have HO67 := hid (HO6.out.kp (Kp.of_below hb7))
      clear ho7 hb7 p0 p1 p2 p4 HM6 B6 HO6
      go_wp2
      go_ret3
      rw [HZ.out]
      exact ⟨⟨_, _, rfl, fun _ => ⟨HO67.out, HO7.out⟩⟩, B7.out⟩

theorem ret2ii12 {a b c d : Int} (h : a = c) (h' : b = d) : Ending.returned (.tuple #[.int .i64 a, .int .i64 b]) = .returned (.tuple #[.int .i64 c, .int .i64 d]) := by rw [h, h']

theorem fallE_out {sig : List Sy} {l : List Ip} {a b : List Int} (h : inE sig l = 0) : fallE sig l a b = if termE sig a = 0 then if termE sig b = 0 then ovE2 (ofV sig l (varsL (a ++ b)) a) (ofV sig l (varsL (a ++ b)) b) else termE sig b else termE sig a := by
  unfold fallE
  rw [if_pos h]

theorem fallN_zero {sig : List Sy} {l : List Ip} {a b : List Int} (h : ¬ fallE sig l a b = 0) : fallN sig l a b = 0 := by
  unfold fallN
  rw [if_neg h]

set_option maxRecDepth 100000 in
set_option maxHeartbeats 6400000 in
theorem falls_any (sv lv av bv : Value) (sig : List Sy) (l : List Ip) (a b : List Int) (w : World) (hs : Sg w sv sig) (hl : Ins w lv l) (ha : Is w av a) (hb : Is w bv b) (hT : Tabs w) (hla : a.length * 24 ≤ 70368744175616) (hlb : b.length * 24 ≤ 70368744175616) :
    Calls Tryz.prog 19 #[sv, lv, .agg #[av, bv]] w fun e w' => e = .returned (.tuple #[.int .i64 (fallN sig l a b), .int .i64 (fallE sig l a b)]) ∧ Below w.heap.size w w' := by
  have HCk := hid (fun W (hB : Below w.heap.size w W) => inCheck_any sv lv sig l W (hs.kp (Kp.of_below hB)) (hl.kp (Kp.of_below hB)) (hT.below hB))
  obtain ⟨so, sc, rfl, hso, hsc, _⟩ := Row.flat hs
  obtain ⟨lo, lc, rfl, hlo, hlc, _⟩ := Row.flat hl
  obtain ⟨aa, ac, rfl, hao, hac, _⟩ := Row.flat ha
  obtain ⟨ba, bc, rfl, hbo, hbc, _⟩ := Row.flat hb
  unfold maxLen at hsc hlc hac hbc
  have HS := hid hs
  have HL := hid hl
  have HA := hid ha
  have HB := hid hb
  have HT := hid hT
  clear hs hl ha hb hT
  obtain ⟨W0, hW0⟩ : ∃ X, X = w.alloc (.cells #[.slice aa a.length ac, .slice ba b.length bc] 41) := ⟨_, rfl⟩
  have B0 : Hid (Below w.heap.size w W0) := by rw [hW0]; exact below_alloc _
  have r0 : W0.cell? ⟨w.heap.size, 0, none⟩ = some (.slice aa a.length ac) := by rw [hW0, cell_of_row _ _ _ _ _ _ (heap_alloc_new _ _)]; rfl
  have r1 : W0.cell? ⟨w.heap.size, 1, none⟩ = some (.slice ba b.length bc) := by rw [hW0, cell_of_row _ _ _ _ _ _ (heap_alloc_new _ _)]; rfl
  go_enter Tryz.func19, Tryz.ntmps19
  go_upto_region 1 with fail
  rw [← hW0]
  clear hW0
  generalize w.heap.size = gr at r0 r1 ⊢
  go_wp2_with fail
  refine (HCk.out W0 B0.out).mono ?_
  rintro e w1 ⟨rfl, hb1⟩
  have B1 := hid (below_step B0.out hb1)
  have R0 := hid ((Kp.of_below hb1).cell _ _ r0)
  have R1 := hid ((Kp.of_below hb1).cell _ _ r1)
  clear hb1 HCk r0 r1
  by_cases hE : inE sig l = 0
  · have HIn := hid hE
    have HR := hid (fallE_out (a := a) (b := b) hE)
    rw [hE]
    clear hE
    have r0 := R0.out
    have r1 := R1.out
    have hR2 := rs_two (HA.out.kp (Kp.of_below B1.out)) (HB.out.kp (Kp.of_below B1.out)) (by omega) (by omega)
    have hB2 := below_alloc (w := w1) (.cells #[.slice aa a.length ac, .slice ba b.length bc] 30)
    obtain ⟨W2, hW2⟩ : ∃ X, X = w1.alloc (.cells #[.slice aa a.length ac, .slice ba b.length bc] 30) := ⟨_, rfl⟩
    have z0 : W2.cell? ⟨w1.heap.size, 0, none⟩ = some (.slice aa a.length ac) := by rw [hW2, cell_of_row _ _ _ _ _ _ (heap_alloc_new _ _)]; rfl
    have z1 : W2.cell? ⟨w1.heap.size, 1, none⟩ = some (.slice ba b.length bc) := by rw [hW2, cell_of_row _ _ _ _ _ _ (heap_alloc_new _ _)]; rfl
    go_wp2
    rw [← hW2] at hB2 ⊢
    clear hW2 hR2
    have B2 := hid (below_step B1.out hB2)
    have S0 := hid ((Kp.of_below hB2).cell _ _ R0.out)
    have S1 := hid ((Kp.of_below hB2).cell _ _ R1.out)
    have Z0 := hid z0
    have Z1 := hid z1
    clear hB2 r0 r1 R0 R1 z0 z1 B1
    generalize w1.heap.size = g2 at Z0 Z1 ⊢
    go_loopw [27] (fun x wr => ∃ k : Nat, k ≤ 2 ∧ x = .int .i64 k ∧ (0 < k → termE sig a = 0) ∧ (1 < k → termE sig b = 0) ∧ Below W2.heap.size W2 wr) (fun x _ => 2 - (intOf x).toNat)
    case atStart => exact ⟨0, by omega, rfl, fun h => absurd h (by omega), fun h => absurd h (by omega), Below.refl _ _⟩
    case round =>
      obtain ⟨k, hk, rfl, h0, h1, hbl⟩ := hrel
      have H0 := hid h0
      have H1 := hid h1
      have BL := hid hbl
      clear h0 h1 hbl
      have BLw := hid (below_step B2.out BL.out)
      match k, hk with
      | 0, _ =>
        have z0 := (Kp.of_below BL.out).cell _ _ Z0.out
        go_wp2_with fail
        refine (check_any _ _ sig a wr (HS.out.kp (Kp.of_below BLw.out)) (HA.out.kp (Kp.of_below BLw.out)) (HT.out.below BLw.out) (by omega)).mono ?_
        rintro e w3 ⟨rfl, hb3⟩
        have B3 := hid (below_step BL.out hb3)
        have B3w := hid (below_step BLw.out hb3)
        clear hb3 z0
        by_cases hE2 : termE sig a = 0
        · have HE2 := hid hE2
          rw [hE2]
          clear hE2
          go_wp2
          go_roundw
          case rel => exact ⟨1, by omega, by go_num, fun _ => HE2.out, fun h => absurd h (by omega), B3.out⟩
          case measure => simp [intOf]
        · have HR2 : Hid (fallE sig l a b = termE sig a) := by show _ = _; rw [HR.out, if_neg hE2]
          have HN := hid (fallN_zero (a := a) (b := b) (fun h => hE2 (HR2.out ▸ h)))
          have hne : (termE sig a != 0) = true := by rw [bne_iff_ne]; exact hE2
          clear hE2 HR
          generalize termE sig a = z at hne HR2 ⊢
          go_wp2
          go_ret2
          exact ⟨ret2ii12 HN.out.symm HR2.out.symm, B3w.out⟩
      | 1, _ =>
        have z1 := (Kp.of_below BL.out).cell _ _ Z1.out
        have HTa := hid (H0.out (by omega))
        go_wp2_with fail
        refine (check_any _ _ sig b wr (HS.out.kp (Kp.of_below BLw.out)) (HB.out.kp (Kp.of_below BLw.out)) (HT.out.below BLw.out) (by omega)).mono ?_
        rintro e w3 ⟨rfl, hb3⟩
        have B3 := hid (below_step BL.out hb3)
        have B3w := hid (below_step BLw.out hb3)
        clear hb3 z1
        by_cases hE2 : termE sig b = 0
        · have HE2 := hid hE2
          rw [hE2]
          clear hE2
          go_wp2
          go_roundw
          case rel => exact ⟨2, by omega, by go_num, fun _ => HTa.out, fun _ => HE2.out, B3.out⟩
          case measure => simp [intOf]
        · have HR2 : Hid (fallE sig l a b = termE sig b) := by show _ = _; rw [HR.out, if_pos HTa.out, if_neg hE2]
          have HN := hid (fallN_zero (a := a) (b := b) (fun h => hE2 (HR2.out ▸ h)))
          have hne : (termE sig b != 0) = true := by rw [bne_iff_ne]; exact hE2
          clear hE2 HR
          generalize termE sig b = z at hne HR2 ⊢
          go_wp2
          go_ret2
          exact ⟨ret2ii12 HN.out.symm HR2.out.symm, B3w.out⟩
      | 2, _ =>
        have HTa := hid (H0.out (by omega))
        have HTb := hid (H1.out (by omega))
        have s0 := (Kp.of_below BL.out).cell _ _ S0.out
        have s1 := (Kp.of_below BL.out).cell _ _ S1.out
        have HR2 : Hid (fallE sig l a b = ovE2 (ofV sig l (varsL (a ++ b)) a) (ofV sig l (varsL (a ++ b)) b)) := by show _ = _; rw [HR.out, if_pos HTa.out, if_pos HTb.out]
        clear HR H0 H1 Z0 Z1
        go_wp2_with fail
        refine (sides_any _ _ _ _ sig l a b wr (HS.out.kp (Kp.of_below BLw.out)) (HL.out.kp (Kp.of_below BLw.out)) (HA.out.kp (Kp.of_below BLw.out)) (HB.out.kp (Kp.of_below BLw.out)) HIn.out HTa.out HTb.out hla hlb _ rfl).mono ?_
        rintro e w3 ⟨⟨v1, v2, rfl, hms⟩, hb3⟩
        have B3 := hid (below_step BLw.out hb3)
        rw [← HR2.out] at hms ⊢
        have HMs := hid hms
        clear hms hb3 s0 s1
        by_cases hE2 : fallE sig l a b = 0
        · obtain ⟨hm1, hm2⟩ := HMs.out hE2
          have HE2 := hid hE2
          have HN : Hid (fallN sig l a b = fallP (ovL (ofV sig l (varsL (a ++ b)) a)) (ovL (ofV sig l (varsL (a ++ b)) b))) := by show _ = _; unfold fallN; rw [if_pos hE2]
          have HM1 := hid hm1
          have HM2 := hid hm2
          rw [hE2]
          clear hE2 hm1 hm2 HMs
          go_wp2_with fail
          refine (greater_any _ _ _ _ w3 HM1.out HM2.out).mono ?_
          rintro e w4 ⟨rfl, hb4⟩
          have B4 := hid (below_step B3.out hb4)
          have HM1b := hid (HM1.out.kp (Kp.of_below hb4))
          have HM2b := hid (HM2.out.kp (Kp.of_below hb4))
          clear hb4 HM1 HM2
          generalize ovL (ofV sig l (varsL (a ++ b)) a) = p at HN HM1b ⊢
          generalize ovL (ofV sig l (varsL (a ++ b)) b) = q at HN HM2b ⊢
          cases hg : greaterB p q with
          | true =>
            have HN2 : Hid (fallN sig l a b = 2) := by show _ = _; rw [HN.out]; unfold fallP; rw [if_pos hg]
            clear hg HN
            go_wp2
            go_ret2
            exact ⟨ret2ii12 HN2.out.symm HE2.out.symm, B4.out⟩
          | false =>
            have HN2 : Hid (fallN sig l a b = if atLeastB p q = true then 1 else 0) := by show _ = _; rw [HN.out]; unfold fallP; rw [if_neg (by rw [hg]; decide)]
            clear hg HN
            go_wp2_with fail
            refine (atLeast_any _ _ p q w4 HM1b.out HM2b.out).mono ?_
            rintro e w5 ⟨rfl, hb5⟩
            have B5 := hid (below_step B4.out hb5)
            clear hb5
            cases hg : atLeastB p q with
            | true =>
              have HN3 : Hid (fallN sig l a b = 1) := by show _ = _; rw [HN2.out, if_pos hg]
              clear hg HN2
              go_wp2
              go_ret2
              exact ⟨ret2ii12 HN3.out.symm HE2.out.symm, B5.out⟩
            | false =>
              have HN3 : Hid (fallN sig l a b = 0) := by show _ = _; rw [HN2.out, if_neg (by rw [hg]; decide)]
              clear hg HN2
              go_wp2
              go_ret2
              exact ⟨ret2ii12 HN3.out.symm HE2.out.symm, B5.out⟩
        · have HN := hid (fallN_zero hE2)
          have hne : (fallE sig l a b != 0) = true := by rw [bne_iff_ne]; exact hE2
          obtain ⟨z, hz⟩ : ∃ z, z = fallE sig l a b := ⟨_, rfl⟩
          rw [← hz] at hne ⊢
          have HZ := hid hz
          clear hE2 HMs HR2 hz
          go_wp2
          go_ret2
          exact ⟨ret2ii12 HN.out.symm HZ.out, B3.out⟩
  · have HR : Hid (fallE sig l a b = inE sig l) := by show _ = _; unfold fallE; rw [if_neg hE]
    have HN := hid (fallN_zero (a := a) (b := b) (fun h => hE (HR.out ▸ h)))
    have hne : (inE sig l != 0) = true := by rw [bne_iff_ne]; exact hE
    clear hE
    generalize inE sig l = z at hne HR ⊢
    go_wp2
    go_ret2
    exact ⟨ret2ii12 HN.out.symm HR.out.symm, B1.out⟩

end Go.Proofs.YtdjmjhlbjcgoiaaGreatDoor

/- For the document's laid of layer 12: a symbol's polynomial through some blocks alone; a row of polynomials that are read outside of its own block. -/
namespace Go.Proofs.YtdjmjhlbjcgoiaaGreatDoor
open Go.RowKit Go.Maps Go.BigFrame

/-- From one world and some blocks to a later one and others. -/
theorem only_to {A B : Nat → Bool} {w w' : World} (hs : w.heap.size ≤ w'.heap.size) (h : ∀ g, g < w.heap.size → A g = true → B g = true ∧ w'.heap[g]? = w.heap[g]?) : Kp (onlyY A w) (onlyY B w') := by
  refine ⟨by rw [only_sizeY, only_sizeY]; exact hs, fun a v hv => ?_⟩
  by_cases hA : A a.block = true
  · have hlt := World.block_lt_of_cell? _ _ hv
    rw [only_sizeY] at hlt
    obtain ⟨h1, h2⟩ := h _ hlt hA
    rw [only_cellY hA] at hv
    rw [only_cellY h1, World.cell?_of_block h2]
    exact hv
  · rw [only_notY hA] at hv
    cases hv

/-- All blocks of A but a slice's own. -/
def noB (A : Nat → Bool) (v : Value) : Nat → Bool := fun g => A g && decide (v.ownBlock ≠ some g)

end Go.Proofs.YtdjmjhlbjcgoiaaGreatDoor

/- The document's Check and Strict of layer 12. -/
namespace Go.Proofs.YtdjmjhlbjcgoiaaGreatDoor
open Go.RowKit Go.Maps Go.BigFrame

theorem docIn_all {sig : List Sy} (ha : ArOk sig) (l : List Ip) : docIn sig [] l = inGo sig (fun _ => false) l := by
  rw [docIn_in ha List.nodup_nil (fun x hx => by cases hx)]
  congr 1

set_option maxRecDepth 100000 in
set_option maxHeartbeats 6400000 in
theorem refCheck12_any (sv lv : Value) (sig : List Sy) (l : List Ip) (w : World) (hs : Sg w sv sig) (hl : Ins w lv l) :
    Calls Tryz.prog 12 #[sv, lv] w fun e w' => e = .returned (.int .i64 (inE sig l)) ∧ Below w.heap.size w w' := by
  have HCs := hid (refCheckSig_any sv sig w hs)
  obtain ⟨so, sc, rfl, hso, hsc, _⟩ := Row.flat hs
  obtain ⟨lo, lc, rfl, hlo, hlc, _⟩ := Row.flat hl
  unfold maxLen at hsc hlc
  have HS := hid hs
  have HL := hid hl
  clear hs hl
  go_enter Tryz.func12, Tryz.ntmps12
  go_wp2_with fail
  refine HCs.out.mono ?_
  rintro e w1 ⟨rfl, hb1⟩
  have B1 := hid hb1
  clear hb1 HCs
  by_cases hE : sigE sig = 0
  · have hAr := sigE_ok hE
    have HE : Hid (inE sig l = docIn sig [] l) := by show _ = _; unfold inE; rw [if_pos hE, docIn_all hAr]
    have HAr := hid hAr
    rw [hE]
    clear hE hAr
    go_wp2
    go_loopw [6] (fun x wr => ∃ k : Nat, k ≤ l.length ∧ x = .int .i64 k ∧ docIn sig [] l = docIn sig ((l.take k).map (·.1)).reverse (l.drop k) ∧ Below w.heap.size w wr) (fun x _ => l.length - (intOf x).toNat)
    case atStart => exact ⟨0, Nat.zero_le _, rfl, rfl, B1.out⟩
    case round =>
      clear B1
      obtain ⟨k, hk, rfl, hgo, hbl⟩ := hrel
      have HO := hid hgo
      have BL := hid hbl
      clear hgo hbl
      by_cases hlt : k < l.length
      · obtain ⟨g, off, c, p, a1, c1, rfl, hm, hc0w, hc1w, hp, hcl, hcu, hp1, hp2⟩ := HL.out.at hlt
        have HD := hid (HO.out.trans (by rw [drop_get hm, docIn]))
        have HM := hid hm
        have HP := hid hp
        have x0 := (Kp.of_below BL.out).cell _ _ hc0w
        have x1 := (Kp.of_below BL.out).cell _ _ hc1w
        clear HO hm hp hc0w hc1w
        by_cases hneg : c < 0
        · have hd : decide (c < 0) = true := decide_eq_true hneg
          have HR : Hid (inE sig l = 120) := by show _ = _; rw [HE.out, HD.out, if_pos (Or.inl hneg)]
          clear HD x1
          go_wp2
          go_ret
          exact ⟨ret1i HR.out.symm, BL.out⟩
        by_cases hbig : (sig.length : Int) ≤ c
        · have hd : decide (c < 0) = false := decide_eq_false hneg
          have hd2 : decide ((sig.length : Int) ≤ c) = true := decide_eq_true hbig
          have HR : Hid (inE sig l = 120) := by show _ = _; rw [HE.out, HD.out, if_pos (Or.inr hbig)]
          clear HD x1
          go_wp2
          go_ret
          exact ⟨ret1i HR.out.symm, BL.out⟩
        obtain ⟨ci, rfl⟩ := Int.eq_ofNat_of_zero_le (Int.not_lt.1 hneg)
        have hci : ci < sig.length := by omega
        have HD2 := hid (HD.out.trans (by rw [if_neg (by rintro (h | h); exact hneg h; exact hbig h)]))
        have hd : decide ((ci : Int) < 0) = false := decide_eq_false hneg
        have hd2 : decide (sig.length ≤ ci) = false := decide_eq_false (by omega)
        clear HD hneg hbig
        have X0 := hid x0
        have X1 := hid x1
        clear x1
        go_wp2
        clear x0 hd hd2
        go_loopw [7] (fun x wy => ∃ j : Nat, j ≤ k ∧ x = .int .i64 j ∧ (∀ (m : Nat) y, m < j → l[m]? = some y → ¬ y.1 = (ci : Int)) ∧ ∃ n, wy = wr.drewN n) (fun x _ => k - (intOf x).toNat)
        case atStart => exact ⟨0, Nat.zero_le _, rfl, fun m y h => absurd h (by omega), 0, rfl⟩
        case round =>
          obtain ⟨j, hj, rfl, hjs, n, hwy⟩ := hrel
          have HJ := hid hjs
          clear hjs
          subst hwy
          by_cases hjk : j < k
          · obtain ⟨g', off', d, p', a1', c1', hgg, hm', hd0, _, _, hdl, hdu, _, _⟩ := HL.out.at (Nat.lt_trans hjk hlt)
            cases hgg
            have z0 := (Kp.of_below BL.out).cell _ _ hd0
            have x0 := X0.out
            have HM' := hid hm'
            clear hm' hd0
            by_cases hdc : d = (ci : Int)
            · have HR : Hid (inE sig l = 120) := by
                show _ = _
                rw [HE.out, HD2.out, if_pos (List.mem_reverse.2 (List.mem_map.2 ⟨(d, p'), List.mem_of_getElem? (by rw [List.getElem?_take_of_lt hjk]; exact HM'.out), hdc⟩))]
              subst hdc
              go_wp2
              go_quiet (fail)
              go_wp2
              go_ret
              exact ⟨ret1i HR.out.symm, below_step BL.out (below_step (drawn_below rfl) (drawn_below rfl))⟩
            · have hne : (d == (ci : Int)) = false := by simpa using hdc
              have HJn : Hid (∀ (m : Nat) y, m < j + 1 → l[m]? = some y → ¬ y.1 = (ci : Int)) := fun m y hm hy => by
                rcases Nat.lt_succ_iff_lt_or_eq.1 hm with h | h
                · exact HJ.out m y h hy
                · subst h
                  rw [HM'.out] at hy
                  cases hy
                  exact hdc
              go_wp2
              go_quiet (fail)
              go_wp2
              go_roundw
              case rel => exact ⟨j + 1, hjk, by go_num, HJn.out, _, rfl⟩
              case measure => simp [intOf] <;> omega
          · obtain rfl : j = k := by omega
            have HNm : Hid (¬ (ci : Int) ∈ ((l.take j).map (·.1)).reverse) := fun hm => by
              obtain ⟨y, hy, e⟩ := List.mem_map.1 (List.mem_reverse.1 hm)
              obtain ⟨m, hm2⟩ := List.mem_iff_getElem?.1 hy
              have hmj : m < j := by
                have := (List.getElem?_eq_some_iff.1 hm2).1
                rw [List.length_take] at this
                omega
              rw [List.getElem?_take_of_lt hmj] at hm2
              exact HJ.out m y hmj hm2 e
            obtain ⟨gs, os, sn, ar, rfl, hsm, _, hsa, hal, hau, _⟩ := HS.out.at hci
            have HArI : Hid (arI sig (ci : Int) = ar) := by show _ = _; unfold arI; rw [Int.toNat_natCast, hsm]
            have HD3 : Hid (docIn sig [] l = if checkE p ar = 2 then 2 else if checkE p ar ≠ 0 then 121 else docIn sig ((l.take (j + 1)).map (·.1)).reverse (l.drop (j + 1))) := by
              show _ = _
              rw [HD2.out, if_neg HNm.out, HArI.out, take_get HM.out]
              simp only [List.map_append, List.map_cons, List.map_nil, List.reverse_append, List.reverse_cons, List.reverse_nil, List.nil_append, List.cons_append]
            obtain ⟨W, hW⟩ : ∃ X, X = wr.drewN n := ⟨_, rfl⟩
            have KW : Hid (Below wr.heap.size wr W) := hid (drawn_below hW)
            have BW := hid (below_step BL.out KW.out)
            have x0 := (Kp.of_below KW.out).cell _ _ X0.out
            have x1 := (Kp.of_below KW.out).cell _ _ X1.out
            have x2 := (Kp.of_below BW.out).cell _ _ hsa
            clear HD2 HNm HJ hsm hsa HArI X0 X1
            rw [← hW]
            clear hW KW
            go_upto_region 14 with fail
            have hS : Kp W W.drew := Kp.of_below (drawn_belowI W)
            refine wp_region_held_drew (S := fun w' => Kp W w') (by kernel_rfl) hS (fun _ => ?_)
            obtain ⟨W0, hW0⟩ : ∃ X, X = W.drew := ⟨_, rfl⟩
            have bW0 : Below W.heap.size W W0 := by rw [hW0]; exact drawn_belowI W
            rw [← hW0] at hS ⊢
            clear hW0
            refine wpAnyH_take (i := 0) (v := .slice (some ⟨g, off, none⟩) l.length lc) rfl (by kernel_rfl) (by kernel_rfl) (by kernel_rfl) (fun _ _ _ h => h) (Or.inl ⟨by rfl, fun w' h => by go_simp⟩) hS ?_
            try simp only [Act.put, List.setIfInBounds_toArray]
            refine wpAnyH_take (i := 1) (v := .int .i64 (j : Int)) rfl (by kernel_rfl) (by kernel_rfl) (by kernel_rfl) (fun _ _ _ h => h) (Or.inl ⟨by rfl, fun w' h => by go_simp⟩) hS ?_
            try simp only [Act.put]
            refine wpAnyH_take (i := 2) (v := .pointer (some ⟨g, off + j * 2, none⟩)) rfl (by kernel_rfl) (by kernel_rfl) (by kernel_rfl) (fun _ _ _ h => h) (Or.inl ⟨by rfl, fun w' h => by go_simp⟩) hS ?_
            try simp only [Act.put]
            refine wpAnyH_take (i := 3) (v := .pointer (some ⟨g, off + j * 2 + 1, none⟩)) rfl (by kernel_rfl) (by kernel_rfl) (by kernel_rfl) (fun _ _ _ h => h) (Or.inl ⟨by rfl, fun w' h => by go_simp⟩) hS ?_
            try simp only [Act.put]
            refine wpAnyH_take (i := 4) (v := .slice a1 p.length c1) rfl (by kernel_rfl) (by kernel_rfl) (by kernel_rfl) (fun _ _ _ h => h) (Or.inl ⟨by rfl, fun w' h => by have hh := h.cell _ _ x1; go_simp⟩) hS ?_
            try simp only [Act.put]
            refine wpAnyH_take (i := 5) (v := .slice (some ⟨gs, os, none⟩) sig.length sc) rfl (by kernel_rfl) (by kernel_rfl) (by kernel_rfl) (fun _ _ _ h => h) (Or.inl ⟨by rfl, fun w' h => by go_simp⟩) hS ?_
            try simp only [Act.put]
            refine wpAnyH_take (i := 6) (v := .slice (some ⟨g, off, none⟩) l.length lc) rfl (by kernel_rfl) (by kernel_rfl) (by kernel_rfl) (fun _ _ _ h => h) (Or.inl ⟨by rfl, fun w' h => by go_simp⟩) hS ?_
            try simp only [Act.put]
            refine wpAnyH_take (i := 7) (v := .int .i64 (j : Int)) rfl (by kernel_rfl) (by kernel_rfl) (by kernel_rfl) (fun _ _ _ h => h) (Or.inl ⟨by rfl, fun w' h => by go_simp⟩) hS ?_
            try simp only [Act.put]
            refine wpAnyH_take (i := 8) (v := .pointer (some ⟨g, off + j * 2, none⟩)) rfl (by kernel_rfl) (by kernel_rfl) (by kernel_rfl) (fun _ _ _ h => h) (Or.inl ⟨by rfl, fun w' h => by go_simp⟩) hS ?_
            try simp only [Act.put]
            refine wpAnyH_take (i := 9) (v := .pointer (some ⟨g, off + j * 2, none⟩)) rfl (by kernel_rfl) (by kernel_rfl) (by kernel_rfl) (fun _ _ _ h => h) (Or.inl ⟨by rfl, fun w' h => by go_simp⟩) hS ?_
            try simp only [Act.put]
            refine wpAnyH_take (i := 10) (v := .int .i64 (ci : Int)) rfl (by kernel_rfl) (by kernel_rfl) (by kernel_rfl) (fun _ _ _ h => h) (Or.inl ⟨by rfl, fun w' h => by have hh := h.cell _ _ x0; go_simp⟩) hS ?_
            try simp only [Act.put]
            refine wpAnyH_take (i := 11) (v := .pointer (some ⟨gs, os + ci * 2, none⟩)) rfl (by kernel_rfl) (by kernel_rfl) (by kernel_rfl) (fun _ _ _ h => h) (Or.inl ⟨by rfl, fun w' h => by go_simp⟩) hS ?_
            try simp only [Act.put]
            refine wpAnyH_take (i := 12) (v := .pointer (some ⟨gs, os + ci * 2 + 1, none⟩)) rfl (by kernel_rfl) (by kernel_rfl) (by kernel_rfl) (fun _ _ _ h => h) (Or.inl ⟨by rfl, fun w' h => by go_simp⟩) hS ?_
            try simp only [Act.put]
            refine wpAnyH_take (i := 13) (v := .int .i64 ar) rfl (by kernel_rfl) (by kernel_rfl) (by kernel_rfl) (fun _ _ _ h => h) (Or.inl ⟨by rfl, fun w' h => by have hh := h.cell _ _ x2; go_simp⟩) hS ?_
            try simp only [Act.put]
            refine wpAnyH_ready (rs := [14]) (by kernel_rfl) (by simp) (AllReadyH.cons rfl (fun K hK => ?_) (AllReadyH.nil))
            go_simp
            refine (refCheck_anyY _ p ar W0 (HP.out.kp ((Kp.of_below BW.out).trans hS)) hal hau).mono ?_
            rintro e w4 ⟨rfl, hb4⟩
            have B4 := hid (below_step BW.out (below_step bW0 hb4))
            have hS4 := hS.trans (Kp.of_below hb4)
            refine hK.out _ _ hS4 (fun _ => ?_)
            clear hK K hS hb4 bW0 x0 x1 x2
            have hS := hS4
            clear hS4
            try simp only [Act.put, List.setIfInBounds_toArray]
            rw [checkR_eq]
            generalize hz : checkE p ar = z at HD3 ⊢
            clear hz
            refine wpAnyH_take (i := 15) (v := .int .i64 z) rfl (by kernel_rfl) (by kernel_rfl) (by kernel_rfl) (fun _ _ _ h => h) (Or.inl ⟨by rfl, fun w' h => by go_simp⟩) hS ?_
            refine wpAnyH_done (by kernel_rfl) ?_ _
            try simp only [Act.put, List.getElem_toArray, List.getElem_cons_succ, List.getElem_cons_zero, List.setIfInBounds_toArray, List.set_cons_succ, List.set_cons_zero]
            clear hS
            by_cases h2 : z = 2
            · subst h2
              have HR : Hid (inE sig l = 2) := by show _ = _; rw [HE.out, HD3.out, if_pos rfl]
              go_wp2
              go_ret
              exact ⟨ret1i HR.out.symm, B4.out⟩
            have hn2 : (z == 2) = false := by simpa using h2
            have hd2 : decide (z = 2) = false := decide_eq_false h2
            by_cases h0 : z = 0
            · subst h0
              have HN : Hid (docIn sig [] l = docIn sig ((l.take (j + 1)).map (·.1)).reverse (l.drop (j + 1))) := by show _ = _; rw [HD3.out, if_neg (by decide), if_neg (by decide)]
              clear h2 HD3
              go_wp2
              go_roundw
              case rel => exact ⟨j + 1, hlt, by go_num, HN.out, B4.out⟩
              case measure => simp [intOf] <;> omega
            · have hne0 : (z != 0) = true := by rw [bne_iff_ne]; exact h0
              have HR : Hid (inE sig l = 121) := by show _ = _; rw [HE.out, HD3.out, if_neg h2, if_pos h0]
              clear HD3
              go_wp2
              go_ret
              exact ⟨ret1i HR.out.symm, B4.out⟩
      · obtain rfl : k = l.length := by omega
        have HR : Hid (inE sig l = if l.length = sig.length then 0 else 120) := by
          show _ = _
          rw [HE.out, HO.out, List.drop_length, docIn, List.length_reverse, List.length_map, List.length_take, Nat.min_self]
        clear HO
        by_cases he : l.length = sig.length
        · have hne : ((l.length : Int) != (sig.length : Int)) = false := by simp; omega
          have HR2 : Hid (inE sig l = 0) := by show _ = _; rw [HR.out, if_pos he]
          clear he HR
          go_wp2
          go_ret
          exact ⟨ret1i HR2.out.symm, BL.out⟩
        · have hne : ((l.length : Int) != (sig.length : Int)) = true := by rw [bne_iff_ne]; omega
          have HR2 : Hid (inE sig l = 120) := by show _ = _; rw [HR.out, if_neg he]
          clear he HR
          go_wp2
          go_ret
          exact ⟨ret1i HR2.out.symm, BL.out⟩
  · have HE : Hid (inE sig l = sigE sig) := by show _ = _; unfold inE; rw [if_neg hE]
    have hne : (sigE sig != 0) = true := by rw [bne_iff_ne]; exact hE
    clear hE
    generalize hz : sigE sig = z at hne HE ⊢
    clear hz
    go_wp2
    go_ret
    exact ⟨ret1i HE.out.symm, B1.out⟩

end Go.Proofs.YtdjmjhlbjcgoiaaGreatDoor

/- hasFree of package system walked. -/
namespace Go.Proofs.YtdjmjhlbjcgoiaaGreatDoor
open Go.RowKit Go.Maps Go.BigFrame

theorem varsL_len (t : List Int) : (varsL t).length ≤ t.length := by
  unfold varsL
  rw [List.length_map]
  have h : ∀ (t m : List Int), (metA m t).length ≤ m.length + t.length := fun t => by
    induction t with
    | nil => intro m; simp [metA]
    | cons c t ih =>
      intro m
      unfold metA
      split
      · have := ih m
        simp only [List.length_cons]
        omega
      · have := ih (m ++ [c])
        simp only [List.length_append, List.length_cons, List.length_nil] at this ⊢
        omega
  simpa using h t []

end Go.Proofs.YtdjmjhlbjcgoiaaGreatDoor

/- checkRule, Check and isRight of package system walked. -/
namespace Go.Proofs.YtdjmjhlbjcgoiaaGreatDoor
open Go.RowKit Go.Maps Go.BigFrame

/-- A rule: its sides. -/
abbrev Rl := List Int × List Int

/-- A rule at an address. -/
def EU (w : World) (g o : Nat) (r : Rl) : Prop := r.1.length * 8 ≤ 140737488351232 ∧ r.2.length * 8 ≤ 140737488351232 ∧ ∃ v1 v2, w.cell? ⟨g, o, none⟩ = some v1 ∧ w.cell? ⟨g, o + 1, none⟩ = some v2 ∧ Is w v1 r.1 ∧ Is w v2 r.2

theorem EU.kp {w w' : World} (hk : Kp w w') (g o : Nat) (r : Rl) (h : EU w g o r) : EU w' g o r := by
  obtain ⟨h1, h2, v1, v2, h3, h4, h5, h6⟩ := h
  exact ⟨h1, h2, v1, v2, hk.cell _ _ h3, hk.cell _ _ h4, h5.kp hk, h6.kp hk⟩

/-- A row of rules. -/
def RU (w : World) (v : Value) (rs : List Rl) : Prop := Row EU 2 w v rs

theorem RU.kp {w w' : World} {v : Value} {rs : List Rl} (h : RU w v rs) (hk : Kp w w') : RU w' v rs := Row.imp h hk.size (EU.kp hk)

theorem RU.at {w : World} {ao : Option Addr} {n cap : Nat} {rs : List Rl} (h : RU w (.slice ao n cap) rs) {k : Nat} (hk : k < rs.length) :
    ∃ g off l r a1 c1 a2 c2, ao = some ⟨g, off, none⟩ ∧ rs[k]? = some (l, r) ∧ w.cell? ⟨g, off + k * 2, none⟩ = some (.slice a1 l.length c1) ∧ w.cell? ⟨g, off + k * 2 + 1, none⟩ = some (.slice a2 r.length c2) ∧
      Is w (.slice a1 l.length c1) l ∧ Is w (.slice a2 r.length c2) r ∧ l.length * 8 ≤ 140737488351232 ∧ r.length * 8 ≤ 140737488351232 := by
  obtain ⟨ao', cap', hv, _, _, hx⟩ := Row.flat h
  simp only [Value.slice.injEq] at hv
  obtain ⟨rfl, rfl, rfl⟩ := hv
  obtain ⟨g, off, ⟨l, r⟩, rfl, hm, h1, h2, v1, v2, h3, h4, h5, h6⟩ := hx k hk
  obtain ⟨a1, c1, rfl, _⟩ := Row.flat h5
  obtain ⟨a2, c2, rfl, _⟩ := Row.flat h6
  exact ⟨g, off, l, r, a1, c1, a2, c2, rfl, hm, h3, h4, h5, h6, h1, h2⟩

end Go.Proofs.YtdjmjhlbjcgoiaaGreatDoor

/- The document's Vars walked. -/
namespace Go.Proofs.YtdjmjhlbjcgoiaaGreatDoor
open Go.RowKit Go.Maps Go.BigFrame

theorem mem_take_next {m : List Int} {k : Nat} {x c : Int} (h : m[k]? = some x) : decide (c ∈ m.take (k + 1)) = (decide (c ∈ m.take k) || decide (x = c)) := by
  rw [take_get h]
  by_cases h1 : c ∈ m.take k
  · simp [h1]
  · by_cases h2 : x = c
    · simp [h2]
    · have h3 : ¬ c = x := fun e => h2 e.symm
      simp [h1, h2, h3]

set_option maxRecDepth 100000 in
set_option maxHeartbeats 1600000 in
theorem refVars_any (v : Value) (t : List Int) (w : World) (h : Is w v t) (hb : t.length * 8 ≤ 140737488355328) :
    Calls Tryz.prog 29 #[v] w fun e w' => ∃ v', e = .returned v' ∧ OwI w' w.heap.size v' (varsL t) ∧ Below w.heap.size w w' := by
  obtain ⟨ao, cap, rfl, hao, hca, q0⟩ := Row.flat h
  unfold maxLen at hca
  have HT := hid h
  clear h q0
  go_enter Tryz.func29, Tryz.ntmps29
  go_wp2
  go_loopw [3, 4] (fun x iv wr => ∃ (i : Nat) (m : List Int), i ≤ t.length ∧ iv = .int .i64 i ∧ metA [] t = metA m (t.drop i) ∧ m.length ≤ i ∧ ZI m ∧ OwI wr w.heap.size x (m.map fun c => -1 - c) ∧ Below w.heap.size w wr) (fun _ iv _ => t.length - (intOf iv).toNat)
  case atStart => exact ⟨0, [], Nat.zero_le _, rfl, rfl, Nat.le_refl _, fun k x hk => (by simp at hk), nilI _ _, Below.refl _ _⟩
  case round =>
    obtain ⟨i, m, hi, rfl, hme, hml, hzm, how, hbl⟩ := hrel
    obtain ⟨bo, bc, hxv, hbc1, hbc2⟩ := how.shape
    rw [List.length_map] at hxv hbc1
    subst hxv
    unfold maxLen at hbc2
    have HMe := hid hme
    have HOw := hid how
    have HB := hid hbl
    have HZ := hid hzm
    clear hme how hzm
    by_cases hlt : i < t.length
    · obtain ⟨g, off, c, rfl, hx1, hx2, hx3, hx4⟩ := (HT.out.kp (Kp.of_below hbl)).at hlt
      have HD := hid (drop_get hx1)
      clear hx1 hbl
      go_wp2
      go_loopw [5, 6] (fun bv kv ws => ∃ (k : Nat) (B : Bool), k ≤ m.length ∧ kv = .int .i64 k ∧ bv = .bool B ∧ B = (decide (0 ≤ c) || decide (c ∈ m.take k)) ∧ ∃ n, ws = wr.drewN n) (fun _ kv _ => m.length - (intOf kv).toNat)
      case atStart => exact ⟨0, decide (0 ≤ c), Nat.zero_le _, rfl, rfl, by simp, 0, rfl⟩
      case round =>
        obtain ⟨k, B, hk, rfl, rfl, hB, n, rfl⟩ := hrel
        have HBb := hid hB
        clear hB
        by_cases hkl : k < m.length
        · obtain ⟨x, hx⟩ : ∃ x, m[k]? = some x := ⟨_, List.getElem?_eq_getElem hkl⟩
          have hxz := HZ.out k x hx
          obtain ⟨g2, off2, y, rfl, hy1, hy2, hy3, hy4⟩ := HOw.out.is.at (k := k) (by rw [List.length_map]; exact hkl)
          rw [List.getElem?_map, hx] at hy1
          simp only [Option.map_some, Option.some.injEq] at hy1
          have HN := hid (mem_take_next (c := c) hx)
          clear hx
          cases B with
          | true =>
            have HB2 : Hid (true = (decide (0 ≤ c) || decide (c ∈ m.take (k + 1)))) := by
              show _ = _
              rw [HN.out, ← Bool.or_assoc, ← HBb.out]
              rfl
            clear hy1 hy2
            go_wp2
            go_quiet (fail)
            go_wp2
            go_roundw
            case rel => exact ⟨k + 1, true, by omega, by go_num, rfl, HB2.out, _, rfl⟩
            case measure => simp [intOf]; omega
          | false =>
            have hwc : IntKind.i64.wrap (-1 - c) = -1 - c := IntWalk.i64_in _ ⟨by omega, by omega⟩
            by_cases hxc : x = c
            · have HB2 : Hid (true = (decide (0 ≤ c) || decide (c ∈ m.take (k + 1)))) := by
                show _ = _
                rw [HN.out, ← Bool.or_assoc, ← HBb.out, decide_eq_true hxc]
                rfl
              have hyc : (y == -1 - c) = true := by rw [beq_iff_eq]; omega
              clear hy1 hxc
              go_wp2
              go_quiet (fail)
              go_wp2
              go_roundw
              case rel => exact ⟨k + 1, true, by omega, by go_num, rfl, HB2.out, _, rfl⟩
              case measure => simp [intOf]; omega
            · have HB2 : Hid (false = (decide (0 ≤ c) || decide (c ∈ m.take (k + 1)))) := by
                show _ = _
                rw [HN.out, ← Bool.or_assoc, ← HBb.out, decide_eq_false hxc]
                rfl
              have hyc : (y == -1 - c) = false := by rw [beq_eq_false_iff_ne]; omega
              clear hy1 hxc
              go_wp2
              go_quiet (fail)
              go_wp2
              go_roundw
              case rel => exact ⟨k + 1, false, by omega, by go_num, rfl, HB2.out, _, rfl⟩
              case measure => simp [intOf]; omega
        · have hke : k = m.length := by omega
          have HBf : Hid (B = (decide (0 ≤ c) || decide (c ∈ m))) := by show _ = _; rw [HBb.out, hke, List.take_length]
          have HBn := hid (below_drewN HB.out n)
          have HOn := hid (HOw.out.later (below_drewN (Below.refl _ _) n))
          clear HBb
          cases B with
          | true =>
            have HN : Hid (metA [] t = metA m (t.drop (i + 1))) := by
              show _ = _
              rw [HMe.out, HD.out, metA, if_pos]
              have := HBf.out
              simp only [Bool.true_eq, Bool.or_eq_true, decide_eq_true_eq] at this
              exact this
            go_wp2
            go_roundw
            case rel => exact ⟨i + 1, m, by omega, by go_num, HN.out, by omega, HZ.out, HOn.out, HBn.out⟩
            case measure => simp [intOf]; omega
          | false =>
            have hno : ¬ (0 ≤ c ∨ c ∈ m) := by
              have := HBf.out
              intro h9
              rw [eq_comm, Bool.or_eq_false_iff, decide_eq_false_iff_not, decide_eq_false_iff_not] at this
              rcases h9 with h9 | h9
              · exact this.1 h9
              · exact this.2 h9
            have HN : Hid (metA [] t = metA (m ++ [c]) (t.drop (i + 1))) := by
              show _ = _
              rw [HMe.out, HD.out, metA, if_neg hno]
            have hwc : IntKind.i64.wrap (-1 - c) = -1 - c := IntWalk.i64_in _ ⟨by omega, by omega⟩
            obtain ⟨v6, w6, hr6, ho6, hg6, _⟩ := join_one 30 (c := -1 - c) HOn.out (by omega) (by omega) HBn.out.size (by rw [List.length_map]; omega)
            have hb6 := (below_step HBn.out (below_alloc _)).grown hg6 (below_step HBn.out (below_alloc _)).size (fun j hj => own_blk HOn.out.2 hj)
            have HR6 := hid hr6
            have HO6 : Hid (OwI w6 w.heap.size v6 ((m ++ [c]).map fun c => -1 - c)) := by
              rw [List.map_append]
              exact ho6
            have HB6 := hid hb6
            have HZ2 : Hid (ZI (m ++ [c])) := fun k y hk => by
              by_cases hkl : k < m.length
              · rw [List.getElem?_append_left hkl] at hk
                exact HZ.out k y hk
              · rw [List.getElem?_append_right (by omega)] at hk
                have : y = c := by
                  have h9 := List.mem_of_getElem? hk
                  simpa using h9
                omega
            clear hr6 ho6 hg6 hb6 hno
            go_wp2_with (first
              | (at_builtin; refine wpList_append_run rfl _ _ _ rfl _ _ rfl rfl HR6.out ?_))
            go_roundw
            case rel => exact ⟨i + 1, m ++ [c], by omega, by go_num, HN.out, by rw [List.length_append, List.length_singleton]; omega, HZ2.out, HO6.out, HB6.out⟩
            case measure => simp [intOf]; omega
    · have HF : Hid (varsL t = m.map fun c => -1 - c) := by show _ = _; unfold varsL; rw [HMe.out, List.drop_of_length_le (by omega)]; rfl
      go_wp2
      go_ret
      exact ⟨_, rfl, by rw [HF.out]; exact HOw.out, HB.out⟩

end Go.Proofs.YtdjmjhlbjcgoiaaGreatDoor
