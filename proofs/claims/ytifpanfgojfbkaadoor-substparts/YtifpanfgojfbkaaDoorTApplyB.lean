/- What lay and Apply answer. -/
import Derived.Test.YtifpanfgojfbkaaDoorTApply
namespace Go.Proofs.YtifpanfgojfbkaaDoor
open Go.RowKit Go.Maps

/-- What a code becomes. -/
def piece (f : Int → Option (List Int)) (c : Int) : List Int := if c < 0 then (f (-1 - c)).getD [c] else [c]

/-- A row with pieces in its codes' places; none: too many nodes. -/
def layGo (f : Int → Option (List Int)) : List Int → List Int → Option (List Int)
  | a, [] => some a
  | a, c :: r => if 512 < a.length + (piece f c).length then none else layGo f (a ++ piece f c) r

def layE (f : Int → Option (List Int)) (t : List Int) : Int := if (layGo f [] t).isSome then 0 else 2
def layL (f : Int → Option (List Int)) (t : List Int) : List Int := (layGo f [] t).getD []

theorem nilI (w : World) (base : Nat) : OwI w base (.slice none 0 0) [] := ⟨fun k x hk => (by simp at hk), World.ownsRow_nil _ _ _ _⟩

theorem one_row {w : World} {g o cap : Nat} {c : Int} (h : w.cell? ⟨g, o, none⟩ = some (.int .i64 c)) (h1 : -9223372036854775808 ≤ c) (h2 : c ≤ 9223372036854775807) (h3 : 1 ≤ cap) (h4 : cap ≤ maxLen) : Is w (.slice (some ⟨g, o, none⟩) 1 cap) [c] := by
  refine ⟨some ⟨g, o, none⟩, cap, rfl, h3, h4, fun _ => ⟨g, o, rfl, World.block_lt_of_cell? _ _ h, fun k x hk => ?_⟩⟩
  have hk0 : k = 0 := by
    have := (List.getElem?_eq_some_iff.1 hk).1
    simp at this
    omega
  subst hk0
  simp at hk
  subst hk
  exact ⟨h1, h2, by simpa using h⟩

section
variable {P : Program} {w w' : World} {ops : Array Oper} {rest : List Oper} {o : Oper} {a : Act} {Q : Exit → Act → World → Prop}

theorem wpList_append_run (hg : o.guard = none) (s x : Operand) (t : TypeId) (ho : o.op = .call { callee := .builtin .append, args := #[s, x], argTypes := #[t, t] }) (v u : Value) {v' : Value} (hs : a.eval s = v) (hx : a.eval x = u)
    (hr : (Builtin.append_ #[t, t] o.type #[v, u]).run P w = .ok v' w') (h : wpList P ops Q rest (a.put o.dst v') w') : wpList P ops Q (o :: rest) a w := by
  refine wpList_plain hg fun K' hK' => ?_
  unfold Oper.wp
  simp [execOp, ho, resolve, invoke, builtin, hs, hx, hr, Result.andThen]
  exact hK' _ _ h

end

set_option maxRecDepth 100000 in
set_option maxHeartbeats 1600000 in
theorem lay_any (f : Int → Option (List Int)) (g : FuncId) (cv v : Value) (t : List Int) (w : World) (h : Is w v t) (_hb : t.length * 8 ≤ 140737488351232)
    (hf : ∀ n u, f n = some u → u.length * 8 ≤ 140737488351232)
    (hcall : ∀ (n : Int) (W : World), 0 ≤ n → n ≤ 9223372036854775807 → Below w.heap.size w W → Calls Tryd.prog g #[.int .i64 n, cv] W fun e w' => ∃ u, e = .returned (.tuple #[u, .bool (f n).isSome]) ∧ (∀ x, f n = some x → Is w' u x) ∧ Below W.heap.size W w')
    (eg : ∀ args w, (callFunc g args).run Tryd.prog w = .ok (.enter g args) w) :
    Calls Tryd.prog 31 #[v, .func (.func g) #[] #[cv]] w fun e w' => ∃ v', e = .returned (.tuple #[v', .int .i64 (layE f t)]) ∧ OwI w' w.heap.size v' (layL f t) ∧ Below w.heap.size w w' := by
  obtain ⟨ao, cap, rfl, hao, hca, q0⟩ := Row.flat h
  unfold maxLen at hca
  have HT : Hid (Is w (.slice ao t.length cap) t) := h
  have HF := hid hf
  have HC := hid hcall
  clear h q0 hf hcall
  go_enter Tryd.func31, Tryd.ntmps31
  go_wp2
  go_loopw [6, 14] (fun x i wr => ∃ (k : Nat) (a : List Int), k ≤ t.length ∧ i = .int .i64 k ∧ layGo f [] t = layGo f a (t.drop k) ∧ a.length ≤ 512 ∧ OwI wr w.heap.size x a ∧ Below w.heap.size w wr) (fun _ i _ => t.length - (intOf i).toNat)
  case atStart => exact ⟨0, [], Nat.zero_le _, rfl, rfl, by simp, nilI _ _, Below.refl _ _⟩
  case round =>
    obtain ⟨k, a, hk, rfl, hgo, hal, how, hbl⟩ := hrel
    obtain ⟨bo, bc, rfl, hbc1, hbc2⟩ := how.shape
    unfold maxLen at hbc2
    have HG := hid hgo
    have HOr := hid how
    have HB := hid hbl
    clear hgo how
    by_cases hlt : k < t.length
    · obtain ⟨ga, off, c, rfl, hx1, hx2, hx3, hx4⟩ := (HT.out.kp (Kp.of_below hbl)).at hlt
      have HD : Hid (t.drop k = c :: t.drop (k + 1)) := drop_get hx1
      have hone : Is wr (.slice (some ⟨ga, off + k, none⟩) 1 (cap - k)) [c] := one_row hx2 hx3 hx4 (by omega) (by unfold maxLen; omega)
      have HOne := hid hone
      clear hx1 hbl hone
      have hk1 : k ≤ k + 1 := by omega
      have hkc : k + 1 ≤ cap := by omega
      by_cases hc0 : c < 0
      · have hwr : IntKind.i64.wrap (-1 - c) = -1 - c := IntWalk.i64_in _ ⟨by omega, by omega⟩
        have HCl := hid (HC.out (-1 - c) wr (by omega) (by omega) HB.out)
        go_wp2_with fail
        refine HCl.out.mono ?_
        rintro e w2 ⟨u, rfl, hu, hb2⟩
        have HBw : Hid (Below w.heap.size w w2) := below_step HB.out hb2
        have HOw : Hid (OwI w2 w.heap.size (.slice bo a.length bc) a) := HOr.out.later hb2
        cases hfn : f (-1 - c) with
        | none =>
          have HPc : Hid (piece f c = [c]) := by show _ = _; unfold piece; rw [if_pos hc0, hfn]; rfl
          have HPi : Hid (Is w2 (.slice (some ⟨ga, off + k, none⟩) 1 (cap - k)) [c]) := HOne.out.kp (Kp.of_below hb2)
          clear hu hfn hb2 HCl
          simp only [Option.isSome]
          by_cases hbig : 512 < a.length + 1
          · have HE : Hid (layGo f [] t = none) := by show _ = _; rw [HG.out, HD.out, layGo, HPc.out]; exact if_pos hbig
            have hbigz : (512 : Int) < (a.length : Int) + 1 := by omega
            go_wp2
            go_ret2
            exact ⟨_, by unfold layE; rw [HE.out]; rfl, by unfold layL; rw [HE.out]; exact nilI _ _, HBw.out⟩
          · obtain ⟨v4, w4, hr4, ho4, hg4⟩ := join_ints 30 HOw.out HPi.out HBw.out.size (by (try simp only [List.length_cons, List.length_nil]); omega)
            have HE : Hid (layGo f [] t = layGo f (a ++ [c]) (t.drop (k + 1))) := by show _ = _; rw [HG.out, HD.out, layGo, HPc.out]; exact if_neg hbig
            have HR4 := hid hr4
            have HO4 := hid ho4
            have HB4 : Hid (Below w.heap.size w w4) := HBw.out.grown hg4 HBw.out.size (fun j hj => own_blk HOw.out.2 hj)
            have hbigz : ¬ (512 : Int) < (a.length : Int) + 1 := by omega
            have hal2 : (a ++ [c]).length ≤ 512 := by rw [List.length_append]; (try simp only [List.length_cons, List.length_nil]); omega
            clear hr4 ho4 hg4
            go_wp2_with (first
              | (at_builtin; refine wpList_append_run rfl _ _ _ rfl _ _ rfl rfl HR4.out ?_))
            go_roundw
            case rel => exact ⟨k + 1, a ++ [c], by omega, by go_num, HE.out, hal2, HO4.out, HB4.out⟩
            case measure => simp [intOf]; omega
        | some ps =>
          have HPc : Hid (piece f c = ps) := by show _ = _; unfold piece; rw [if_pos hc0, hfn]; rfl
          have hps := HF.out _ _ hfn
          have hpi := hu ps hfn
          obtain ⟨pa, pc, rfl, _⟩ := Row.flat hpi
          have HPi := hid hpi
          clear hu hfn hb2 HCl hpi
          simp only [Option.isSome]
          by_cases hbig : 512 < a.length + ps.length
          · have HE : Hid (layGo f [] t = none) := by show _ = _; rw [HG.out, HD.out, layGo, HPc.out]; exact if_pos hbig
            have hbigz : (512 : Int) < (a.length : Int) + (ps.length : Int) := by omega
            go_wp2
            go_ret2
            exact ⟨_, by unfold layE; rw [HE.out]; rfl, by unfold layL; rw [HE.out]; exact nilI _ _, HBw.out⟩
          · obtain ⟨v4, w4, hr4, ho4, hg4⟩ := join_ints 30 HOw.out HPi.out HBw.out.size (by (try simp only [List.length_cons, List.length_nil]); omega)
            have HE : Hid (layGo f [] t = layGo f (a ++ ps) (t.drop (k + 1))) := by show _ = _; rw [HG.out, HD.out, layGo, HPc.out]; exact if_neg hbig
            have HR4 := hid hr4
            have HO4 := hid ho4
            have HB4 : Hid (Below w.heap.size w w4) := HBw.out.grown hg4 HBw.out.size (fun j hj => own_blk HOw.out.2 hj)
            have hbigz : ¬ (512 : Int) < (a.length : Int) + (ps.length : Int) := by omega
            have hal2 : (a ++ ps).length ≤ 512 := by rw [List.length_append]; (try simp only [List.length_cons, List.length_nil]); omega
            clear hr4 ho4 hg4
            go_wp2_with (first
              | (at_builtin; refine wpList_append_run rfl _ _ _ rfl _ _ rfl rfl HR4.out ?_))
            go_roundw
            case rel => exact ⟨k + 1, a ++ ps, by omega, by go_num, HE.out, hal2, HO4.out, HB4.out⟩
            case measure => simp [intOf]; omega
      · have HPc : Hid (piece f c = [c]) := by show _ = _; unfold piece; rw [if_neg hc0]
        have HBw := HB
        have HOw := HOr
        have HPi := HOne
        by_cases hbig : 512 < a.length + 1
        · have HE : Hid (layGo f [] t = none) := by show _ = _; rw [HG.out, HD.out, layGo, HPc.out]; exact if_pos hbig
          have hbigz : (512 : Int) < (a.length : Int) + 1 := by omega
          go_wp2
          go_ret2
          exact ⟨_, by unfold layE; rw [HE.out]; rfl, by unfold layL; rw [HE.out]; exact nilI _ _, HBw.out⟩
        · obtain ⟨v4, w4, hr4, ho4, hg4⟩ := join_ints 30 HOw.out HPi.out HBw.out.size (by (try simp only [List.length_cons, List.length_nil]); omega)
          have HE : Hid (layGo f [] t = layGo f (a ++ [c]) (t.drop (k + 1))) := by show _ = _; rw [HG.out, HD.out, layGo, HPc.out]; exact if_neg hbig
          have HR4 := hid hr4
          have HO4 := hid ho4
          have HB4 : Hid (Below w.heap.size w w4) := HBw.out.grown hg4 HBw.out.size (fun j hj => own_blk HOw.out.2 hj)
          have hbigz : ¬ (512 : Int) < (a.length : Int) + 1 := by omega
          have hal2 : (a ++ [c]).length ≤ 512 := by rw [List.length_append]; (try simp only [List.length_cons, List.length_nil]); omega
          clear hr4 ho4 hg4
          go_wp2_with (first
            | (at_builtin; refine wpList_append_run rfl _ _ _ rfl _ _ rfl rfl HR4.out ?_))
          go_roundw
          case rel => exact ⟨k + 1, a ++ [c], by omega, by go_num, HE.out, hal2, HO4.out, HB4.out⟩
          case measure => simp [intOf]; omega
    · have HE : Hid (layGo f [] t = some a) := by show _ = _; rw [HG.out, List.drop_of_length_le (by omega)]; rfl
      go_wp2
      go_ret2
      exact ⟨_, by unfold layE; rw [HE.out]; rfl, by unfold layL; rw [HE.out]; exact HOr.out, HB.out⟩

end Go.Proofs.YtifpanfgojfbkaaDoor
