/- slices.Grow, slices.Concat walked. -/
import Derived.Test.YtjcgngfidnechaaDoorTAbove
import Derived.Test.YtjcgngfidnechaaDoorTRefQ
import Derived.Test.YtjcgngfidnechaaDoorTLaw3
import Derived.Lib.AppendZeros
namespace Go.Proofs.YtjcgngfidnechaaDoor
open Go.RowKit Go.Maps Go.BigFrame

theorem wpList_append_run2 {P : Program} {w w' : World} {ops : Array Oper} {rest : List Oper} {o : Oper} {a : Act} {v' : Value} {Q : Exit → Act → World → Prop} (hgd : o.guard = none) (s x : Operand) (t t2 : TypeId)
    (ho : o.op = .call { callee := .builtin .append, args := #[s, x], argTypes := #[t, t2] }) (v u : Value) (hs : a.eval s = v) (hx : a.eval x = u)
    (hr : (Builtin.append_ #[t, t2] o.type #[v, u]).run P w = .ok v' w') (h : wpList P ops Q rest (a.put o.dst v') w') : wpList P ops Q (o :: rest) a w := by
  refine wpList_plain hgd fun K hK => ?_
  unfold Oper.wp execOp
  simp only [ho, resolve, invoke, builtin, Sem.run_bind, Sem.run_pure, Result.andThen_ok, List.map_toArray, List.map_cons, List.map_nil, hs, hx, hr]
  exact hK _ _ h

theorem zero_ints (n : Nat) : (Builtin.zeroCells (Value.int .i64 0).cells n).size = n := by
  simp [Builtin.zeroCells, Value.cells]

set_option maxRecDepth 100000 in
theorem growS_any (n : Nat) (w : World) (h : n * 8 ≤ 140737488355328) :
    Calls Tryd.prog 56 #[.slice none 0 0, .int .i64 n] w fun e w' => ∃ v', e = .returned v' ∧ OwI w' w.heap.size v' [] ∧ Below w.heap.size w w' := by
  obtain ⟨i0, hi, hz0, hz1, hz2⟩ := info_parts info_int
  by_cases h0 : n = 0
  · subst h0
    go_enter Tryd.func56, Tryd.ntmps56
    go_wp2
    go_ret
    exact ⟨_, rfl, nilI _ _, Below.refl _ _⟩
  · have hn1 : ¬ (n : Int) < 0 := by omega
    have hn2 : (0 : Int) < (n : Int) := by omega
    have hr := Lib.run_append_nil_zeros (P := Tryd.prog) w 27 3 27 3 i0 (.int .i64 0) .i64 .i64 under_ints (by kernel_rfl) hi hz0 n (by omega) (by rw [hz1]; decide) (by omega) (by rw [hz2]; omega)
    obtain ⟨C, hC⟩ : ∃ C, C = grownCap w n 0 3 := ⟨_, rfl⟩
    rw [← hC] at hr
    have HR := hid hr
    have HC : Hid (n ≤ C ∧ C ≤ maxLen) := by
      rw [hC]
      exact ⟨grownCap_ge _ _ _ _, grownCap_le_maxLen _ _ _ _ (by unfold maxLen; omega)⟩
    clear hr hC
    go_enter Tryd.func56, Tryd.ntmps56
    go_wp2_with (first
      | (at_builtin; refine wpList_append_run2 rfl _ _ _ _ rfl _ _ rfl rfl HR.out ?_))
    go_ret
    refine ⟨_, rfl, ⟨fun k x hk => (by simp at hk), rfl, .inr ⟨w.heap.size, C, _, rfl, Nat.le_refl _, heap_alloc_new _ _, Nat.zero_le _, HC.out.2, ?_, rfl⟩⟩, below_step (below_alloc _) (drawn_below1 _)⟩
    have h1 := zero_ints n
    have h2 := zero_ints (C - n)
    simp only [Value.cells] at h1 h2
    have := HC.out.1
    rw [Array.size_append, h1, h2]
    omega

theorem sumT_take {l : List (List Int)} {k : Nat} {r : List Int} (h : l[k]? = some r) : ((l.take (k + 1)).map List.length).sum = ((l.take k).map List.length).sum + r.length := by
  rw [take_get h, List.map_append, List.sum_append]
  simp

theorem sumT_le (l : List (List Int)) (k : Nat) : ((l.take k).map List.length).sum ≤ (l.map List.length).sum := by
  have : (l.map List.length).sum = ((l.take k).map List.length).sum + ((l.drop k).map List.length).sum := by
    rw [← List.sum_append, ← List.map_append, List.take_append_drop]
  omega

theorem flat_len (l : List (List Int)) : l.flatten.length = (l.map List.length).sum := List.length_flatten

set_option maxRecDepth 100000 in
set_option maxHeartbeats 1600000 in
theorem concat_any (v : Value) (l : List (List Int)) (w : World) (h : Rs w v l) (hl : (l.map List.length).sum * 8 ≤ 140737488355328) :
    Calls Tryd.prog 43 #[v] w fun e w' => ∃ v', e = .returned v' ∧ OwI w' w.heap.size v' l.flatten ∧ Below w.heap.size w w' := by
  obtain ⟨ao, cap, rfl, hao, hca, q0⟩ := Row.flat h
  unfold maxLen at hca
  have HR := hid h
  clear h q0
  go_enter Tryd.func43, Tryd.ntmps43
  go_wp2
  go_loopw [3, 11] (fun x i wr => ∃ k : Nat, k ≤ l.length ∧ i = .int .i64 k ∧ x = .int .i64 ((((l.take k).map List.length).sum : Nat) : Int) ∧ wr = w) (fun _ i _ => l.length - (intOf i).toNat)
  case atStart => exact ⟨0, Nat.zero_le _, rfl, rfl, rfl⟩
  case round =>
    obtain ⟨k, hk, rfl, rfl, hw⟩ := hrel
    have hw8 := hw.symm
    subst hw8
    clear hw
    have hsl := sumT_le l k
    have hsl1 := sumT_le l (k + 1)
    by_cases hlt : k < l.length
    · obtain ⟨g, off, a, r, c, rfl, hm, hc0, hir, hrl⟩ := HR.out.at hlt
      have hst := sumT_take hm
      have HSt := hid hst
      obtain ⟨S, hS⟩ : ∃ S, S = ((l.take k).map List.length).sum := ⟨_, rfl⟩
      rw [← hS] at hsl hst HSt ⊢
      have hw1 : IntKind.i64.wrap ((S : Int) + (r.length : Int)) = ((S + r.length : Nat) : Int) := by rw [IntWalk.i64_in _ ⟨by omega, by omega⟩]; omega
      have hn0 : ¬ ((S + r.length : Nat) : Int) < 0 := by omega
      clear hm hir hS
      go_wp2
      go_roundw
      case rel => exact ⟨k + 1, by omega, by go_num, by rw [HSt.out]; exact congrArg (Value.int .i64) (by omega), trivial⟩
      case measure => simp [intOf]; omega
    · have hke : k = l.length := by omega
      subst hke
      rw [List.take_length]
      have HG := hid (growS_any (l.map List.length).sum w hl)
      go_wp2_with fail
      refine HG.out.mono ?_
      rintro e w1 ⟨v1, rfl, ho1, hb1⟩
      have HO1 := hid ho1
      have HB1 := hid hb1
      clear ho1 hb1 HG hsl hsl1 hlt hk
      go_wp2
      go_loopw [6, 27] (fun x i wr => ∃ k : Nat, k ≤ l.length ∧ i = .int .i64 k ∧ OwI wr w.heap.size x (l.take k).flatten ∧ Below w.heap.size w wr) (fun _ i _ => l.length - (intOf i).toNat)
      case atStart => exact ⟨0, Nat.zero_le _, rfl, HO1.out, HB1.out⟩
      case round =>
        obtain ⟨k, hk, rfl, how, hbl⟩ := hrel
        have HO := hid how
        have HB := hid hbl
        have hsl := sumT_le l k
        have hsl1 := sumT_le l (k + 1)
        clear how
        by_cases hlt : k < l.length
        · obtain ⟨g, off, a, r, c, rfl, hm, hc0, hir, hrl⟩ := (HR.out.kp (Kp.of_below hbl)).at hlt
          have hst := sumT_take hm
          have HFl : Hid ((l.take (k + 1)).flatten = (l.take k).flatten ++ r) := by
            show _ = _
            rw [take_get hm, List.flatten_append]
            simp
          obtain ⟨v4, w4, hr4, ho4, hg4⟩ := join_ints 27 HO.out hir HB.out.size (by rw [flat_len]; omega)
          have HR4 := hid hr4
          have HO4 := hid ho4
          have HB4 : Hid (Below w.heap.size w w4) := HB.out.grown hg4 HB.out.size (fun j hj => own_blk HO.out.2 hj)
          clear hm hir hr4 ho4 hg4 hst hbl
          go_wp2_with (first
            | (at_builtin; refine wpList_append_run rfl _ _ _ rfl _ _ rfl rfl HR4.out ?_))
          go_roundw
          case rel => exact ⟨k + 1, by omega, by go_num, by rw [HFl.out]; exact HO4.out, HB4.out⟩
          case measure => simp [intOf]; omega
        · have hke : k = l.length := by omega
          subst hke
          rw [List.take_length] at HO
          go_wp2
          go_ret
          exact ⟨_, rfl, HO.out, HB.out⟩

end Go.Proofs.YtjcgngfidnechaaDoor
