/- Texts of the proof, one behind the other. -/
import Derived.Test.YtpnkplidhbbliaaDoorOwn2
import Derived.Test.YtpnkplidhbbliaaDoorOwn1
import Derived.Lib.ValidLaws
import Derived.Stop.FmtQuoteTie
import Derived.Laws.Runes
/- What Apply answers. -/
namespace Go.Proofs.YtpnkplidhbbliaaDoor
open Go.RowKit Go.Maps

theorem under_terms : Tryd.prog.underlying 85 = some (.map 3 23) := by kernel_rfl
theorem zero_ints (w : World) : (zeroValue 23).run Tryd.prog w = .ok (.slice none 0 0) w := by kernel_rfl

/-- The closure of boundTerms: it looks the number up. -/
theorem bound_closure (n : Int) (b bx : Nat) (L : List (Int × Value)) (w : World) (hc : w.cell? ⟨bx, 0, none⟩ = some (.map (some b))) (hm : MapV w b L) (h1 : -9223372036854775808 ≤ n) (h2 : n ≤ 9223372036854775807) :
    Calls Tryd.prog 54 #[.int .i64 n, .pointer (some ⟨bx, 0, none⟩)] w fun e w' => e = .returned (.tuple #[(L.lookup n).getD (.slice none 0 0), .bool (L.lookup n).isSome]) ∧ w' = w := by
  have hl := hm.look under_terms (zero_ints w) h1 h2
  have HL := hid hl
  clear hl hm
  generalize (L.lookup n).getD (.slice none 0 0) = r at HL ⊢
  generalize (L.lookup n).isSome = o at HL ⊢
  go_enter Tryd.func54, Tryd.ntmps54
  go_wp2_with (first
    | (at_lookup; refine wpList_lookup_run rfl _ _ _ _ rfl _ _ _ rfl rfl HL.out ?_))
  go_ret2
  exact ⟨rfl, rfl⟩

/-- The map's values are the terms of binds. -/
def Terms (w : World) : List (Int × Value) → List Bd → Prop
  | [], [] => True
  | (k, v) :: L, (x, t) :: s => k = x ∧ Is w v t ∧ Terms w L s
  | _, _ => False

theorem Terms.kp {w w' : World} (hk : Kp w w') : ∀ {L : List (Int × Value)} {s : List Bd}, Terms w L s → Terms w' L s
  | [], [], _ => trivial
  | (_, _) :: _, (_, _) :: _, ⟨h1, h2, h3⟩ => ⟨h1, h2.kp hk, Terms.kp hk h3⟩
  | [], _ :: _, h => h.elim
  | _ :: _, [], h => h.elim

theorem Terms.len {w : World} : ∀ {L : List (Int × Value)} {s : List Bd}, Terms w L s → L.length = s.length
  | [], [], _ => rfl
  | (_, _) :: _, (_, _) :: _, ⟨_, _, h3⟩ => congrArg (· + 1) (Terms.len h3)
  | [], _ :: _, h => h.elim
  | _ :: _, [], h => h.elim

theorem Terms.look {w : World} (n : Int) : ∀ {L : List (Int × Value)} {s : List Bd}, Terms w L s → (∀ t, s.lookup n = some t → ∃ v, L.lookup n = some v ∧ Is w v t) ∧ (s.lookup n = none → L.lookup n = none)
  | [], [], _ => ⟨fun t h => (by cases h), fun _ => rfl⟩
  | (k, v) :: L, (x, t) :: s, ⟨h1, h2, h3⟩ => by
    subst h1
    rw [List.lookup_cons, List.lookup_cons]
    cases hk : n == k with
    | true => exact ⟨fun u hu => ⟨v, rfl, by cases hu; exact h2⟩, fun h => by cases h⟩
    | false => exact Terms.look n h3
  | [], _ :: _, h => h.elim
  | _ :: _, [], h => h.elim

set_option maxRecDepth 100000 in
set_option maxHeartbeats 1600000 in
theorem boundTerms_any (bv : Value) (s : List Bd) (w : World) (h : Bs w bv s) (hn : ∀ k x t, s[k]? = some (x, t) → (s.take k).reverse.lookup x = none) :
    Calls Tryd.prog 31 #[bv] w fun e w' => ∃ b bx L, e = .returned (.func (.func 54) #[] #[.pointer (some ⟨bx, 0, none⟩)]) ∧ w'.cell? ⟨bx, 0, none⟩ = some (.map (some b)) ∧ MapV w' b L ∧ Terms w' L s.reverse ∧ Below w.heap.size w w' := by
  obtain ⟨so, sc, rfl, hso, hsc, _⟩ := Row.flat h
  unfold maxLen at hsc
  have HI : Hid (Bs w (.slice so s.length sc) s) := h
  have HN : Hid (∀ k x t, s[k]? = some (x, t) → (s.take k).reverse.lookup x = none) := hn
  clear h hn
  have hmm : ∀ (n : Int) (w : World), (Instr.makeMap 85 (some (.int .i64 n))).run Tryd.prog w = .ok (.map (some w.heap.size)) (w.alloc (.map #[] 0)) := by
    intro n w
    simp [Instr.makeMap, run_underlying under_terms, asInt, asIntOf, Result.andThen]
  go_enter Tryd.func31, Tryd.ntmps31
  go_wp2
  go_loopw [11] (fun i wr => ∃ (k : Nat) (L : List (Int × Value)), k ≤ s.length ∧ i = .int .i64 k ∧ Terms wr L (s.take k).reverse ∧ MapV wr w.heap.size L ∧ wr.cell? ⟨w.heap.size + 1, 0, none⟩ = some (.map (some w.heap.size)) ∧ Below w.heap.size w wr) (fun i _ => s.length - (intOf i).toNat)
  case atStart => exact ⟨0, [], Nat.zero_le _, rfl, trivial, (MapV.made w).later (below_alloc _), by simp, below_step (below_alloc _) (below_alloc _)⟩
  case round =>
    obtain ⟨k, L, hk, rfl, hte, hmv, hbx, hbl⟩ := hrel
    have HTe : Hid (Terms wr L (s.take k).reverse) := hte
    have HMv : Hid (MapV wr w.heap.size L) := hmv
    have HB : Hid (Below w.heap.size w wr) := hbl
    clear hte hmv hmm
    by_cases hlt : k < s.length
    · obtain ⟨g, off, x, ba, t, bc, rfl, hm, hc0, hc1, hit, hx1, hx2, hx3⟩ := (HI.out.kp (Kp.of_below hbl)).at hlt
      have hlen := HTe.out.len
      rw [List.length_reverse, List.length_take, Nat.min_eq_left hk] at hlen
      have hbw := below_alloc (w := wr) (.cells #[.int .i64 x, .slice ba t.length bc] 31)
      obtain ⟨w4, hr4, hm4, hg4⟩ := (HMv.out.later hbw).store under_terms hx1 hx2 ((HTe.out.look x).2 (HN.out k x t hm)) (by unfold maxLen; omega) (.slice ba t.length bc)
      obtain ⟨es, ck, hes⟩ := (HMv.out.later hbw).isMap
      have hkp : Kp wr w4 := (Kp.of_below hbw).trans (Kp.of_map hg4 hes)
      have HT4 : Hid (Terms w4 ((x, .slice ba t.length bc) :: L) (s.take (k + 1)).reverse) := by
        show Terms _ _ _
        rw [List.take_add_one, hm]
        simp only [Option.toList, List.reverse_append, List.reverse_cons, List.reverse_nil, List.nil_append, List.cons_append]
        exact ⟨rfl, hit.kp hkp, HTe.out.kp hkp⟩
      have HR4 : Hid ((Instr.mapUpdate 85 (.map (some w.heap.size)) (.int .i64 x) (.slice ba t.length bc)).run Tryd.prog (wr.alloc (.cells #[.int .i64 x, .slice ba t.length bc] 31)) = .ok () w4) := hr4
      have HM4 : Hid (MapV w4 w.heap.size ((x, .slice ba t.length bc) :: L)) := hm4
      have HB4 : Hid (Below w.heap.size w w4) := grown_below (below_step HB.out hbw) hg4 (Nat.le_refl _)
      have HX4 : Hid (w4.cell? ⟨w.heap.size + 1, 0, none⟩ = some (.map (some w.heap.size))) := hkp.cell _ _ hbx
      have hblk : w.heap.size + 1 < wr.heap.size := World.block_lt_of_cell? _ _ hbx
      clear hr4 hm4 hg4 hes hkp hbw hit hm hbl
      go_wp2_with (first
        | (at_mapUpdate; refine wpList_mapUpdate_run rfl _ _ _ _ rfl _ _ _ rfl rfl rfl HR4.out ?_))
      go_roundw
      case rel => exact ⟨k + 1, _, by omega, by go_num, HT4.out, HM4.out, HX4.out, HB4.out⟩
      case measure => simp [intOf]; omega
    · have hke : k = s.length := by omega
      subst hke
      rw [List.take_length] at HTe
      have HBx := hid hbx
      go_wp2
      go_ret
      exact ⟨_, _, _, rfl, HBx.out, HMv.out, HTe.out, HB.out⟩

end Go.Proofs.YtpnkplidhbbliaaDoor

/- What lay and Apply answer. -/
namespace Go.Proofs.YtpnkplidhbbliaaDoor
open Go.RowKit Go.Maps

/-- What a code becomes. -/
def piece (f : Int → Option (List Int)) (c : Int) : List Int := if c < 0 then (f (-1 - c)).getD [c] else [c]

/-- A row with pieces in its codes' places; none: too many nodes. -/
def layGo (f : Int → Option (List Int)) : List Int → List Int → Option (List Int)
  | a, [] => some a
  | a, c :: r => if 512 < a.length + (piece f c).length then none else layGo f (a ++ piece f c) r

def layE (f : Int → Option (List Int)) (t : List Int) : Int := if (layGo f [] t).isSome then 0 else 2
def layL (f : Int → Option (List Int)) (t : List Int) : List Int := (layGo f [] t).getD []

theorem nilI (w : World) (base : Nat) : OwI w base (.slice none 0 0) [] := ⟨fun k x hk => (by simp at hk), World.ownsRow_nil _ _ _ _⟩

theorem one_row {w : World} {g o cap : Nat} {c : Int} (h : w.cell? ⟨g, o, none⟩ = some (.int .i64 c)) (h1 : -9223372036854775808 ≤ c) (h2 : c ≤ 9223372036854775807) (h3 : 1 ≤ cap) (h4 : cap ≤ maxLen) : Is w (.slice (some ⟨g, o, none⟩) 1 cap) [c] := by
  refine ⟨some ⟨g, o, none⟩, cap, rfl, h3, h4, fun _ => ⟨g, o, rfl, World.block_lt_of_cell? _ _ h, fun k x hk => ?_⟩⟩
  have hk0 : k = 0 := by
    have := (List.getElem?_eq_some_iff.1 hk).1
    simp at this
    omega
  subst hk0
  simp at hk
  subst hk
  exact ⟨h1, h2, by simpa using h⟩

section
variable {P : Program} {w w' : World} {ops : Array Oper} {rest : List Oper} {o : Oper} {a : Act} {Q : Exit → Act → World → Prop}

theorem wpList_append_run (hg : o.guard = none) (s x : Operand) (t : TypeId) (ho : o.op = .call { callee := .builtin .append, args := #[s, x], argTypes := #[t, t] }) (v u : Value) {v' : Value} (hs : a.eval s = v) (hx : a.eval x = u)
    (hr : (Builtin.append_ #[t, t] o.type #[v, u]).run P w = .ok v' w') (h : wpList P ops Q rest (a.put o.dst v') w') : wpList P ops Q (o :: rest) a w := by
  refine wpList_plain hg fun K' hK' => ?_
  unfold Oper.wp
  simp [execOp, ho, resolve, invoke, builtin, hs, hx, hr, Result.andThen]
  exact hK' _ _ h

end

set_option maxRecDepth 100000 in
set_option maxHeartbeats 1600000 in
theorem lay_any (f : Int → Option (List Int)) (g : FuncId) (cv v : Value) (t : List Int) (w : World) (h : Is w v t) (_hb : t.length * 8 ≤ 140737488351232)
    (hf : ∀ n u, f n = some u → u.length * 8 ≤ 140737488351232)
    (hcall : ∀ (n : Int) (W : World), 0 ≤ n → n ≤ 9223372036854775807 → Below w.heap.size w W → Calls Tryd.prog g #[.int .i64 n, cv] W fun e w' => ∃ u, e = .returned (.tuple #[u, .bool (f n).isSome]) ∧ (∀ x, f n = some x → Is w' u x) ∧ Below W.heap.size W w')
    (eg : ∀ args w, (callFunc g args).run Tryd.prog w = .ok (.enter g args) w) :
    Calls Tryd.prog 30 #[v, .func (.func g) #[] #[cv]] w fun e w' => ∃ v', e = .returned (.tuple #[v', .int .i64 (layE f t)]) ∧ OwI w' w.heap.size v' (layL f t) ∧ Below w.heap.size w w' := by
  obtain ⟨ao, cap, rfl, hao, hca, q0⟩ := Row.flat h
  unfold maxLen at hca
  have HT : Hid (Is w (.slice ao t.length cap) t) := h
  have HF := hid hf
  have HC := hid hcall
  clear h q0 hf hcall
  go_enter Tryd.func30, Tryd.ntmps30
  go_wp2
  go_loopw [6, 14] (fun x i wr => ∃ (k : Nat) (a : List Int), k ≤ t.length ∧ i = .int .i64 k ∧ layGo f [] t = layGo f a (t.drop k) ∧ a.length ≤ 512 ∧ OwI wr w.heap.size x a ∧ Below w.heap.size w wr) (fun _ i _ => t.length - (intOf i).toNat)
  case atStart => exact ⟨0, [], Nat.zero_le _, rfl, rfl, by simp, nilI _ _, Below.refl _ _⟩
  case round =>
    obtain ⟨k, a, hk, rfl, hgo, hal, how, hbl⟩ := hrel
    obtain ⟨bo, bc, rfl, hbc1, hbc2⟩ := how.shape
    unfold maxLen at hbc2
    have HG := hid hgo
    have HOr := hid how
    have HB := hid hbl
    clear hgo how
    by_cases hlt : k < t.length
    · obtain ⟨ga, off, c, rfl, hx1, hx2, hx3, hx4⟩ := (HT.out.kp (Kp.of_below hbl)).at hlt
      have HD : Hid (t.drop k = c :: t.drop (k + 1)) := drop_get hx1
      have hone : Is wr (.slice (some ⟨ga, off + k, none⟩) 1 (cap - k)) [c] := one_row hx2 hx3 hx4 (by omega) (by unfold maxLen; omega)
      have HOne := hid hone
      clear hx1 hbl hone
      have hk1 : k ≤ k + 1 := by omega
      have hkc : k + 1 ≤ cap := by omega
      by_cases hc0 : c < 0
      · have hwr : IntKind.i64.wrap (-1 - c) = -1 - c := IntWalk.i64_in _ ⟨by omega, by omega⟩
        have HCl := hid (HC.out (-1 - c) wr (by omega) (by omega) HB.out)
        go_wp2_with fail
        refine HCl.out.mono ?_
        rintro e w2 ⟨u, rfl, hu, hb2⟩
        have HBw : Hid (Below w.heap.size w w2) := below_step HB.out hb2
        have HOw : Hid (OwI w2 w.heap.size (.slice bo a.length bc) a) := HOr.out.later hb2
        cases hfn : f (-1 - c) with
        | none =>
          have HPc : Hid (piece f c = [c]) := by show _ = _; unfold piece; rw [if_pos hc0, hfn]; rfl
          have HPi : Hid (Is w2 (.slice (some ⟨ga, off + k, none⟩) 1 (cap - k)) [c]) := HOne.out.kp (Kp.of_below hb2)
          clear hu hfn hb2 HCl
          simp only [Option.isSome]
          by_cases hbig : 512 < a.length + 1
          · have HE : Hid (layGo f [] t = none) := by show _ = _; rw [HG.out, HD.out, layGo, HPc.out]; exact if_pos hbig
            have hbigz : (512 : Int) < (a.length : Int) + 1 := by omega
            go_wp2
            go_ret2
            exact ⟨_, by unfold layE; rw [HE.out]; rfl, by unfold layL; rw [HE.out]; exact nilI _ _, HBw.out⟩
          · obtain ⟨v4, w4, hr4, ho4, hg4⟩ := join_ints 23 HOw.out HPi.out HBw.out.size (by (try simp only [List.length_cons, List.length_nil]); omega)
            have HE : Hid (layGo f [] t = layGo f (a ++ [c]) (t.drop (k + 1))) := by show _ = _; rw [HG.out, HD.out, layGo, HPc.out]; exact if_neg hbig
            have HR4 := hid hr4
            have HO4 := hid ho4
            have HB4 : Hid (Below w.heap.size w w4) := HBw.out.grown hg4 HBw.out.size (fun j hj => own_blk HOw.out.2 hj)
            have hbigz : ¬ (512 : Int) < (a.length : Int) + 1 := by omega
            have hal2 : (a ++ [c]).length ≤ 512 := by rw [List.length_append]; (try simp only [List.length_cons, List.length_nil]); omega
            clear hr4 ho4 hg4
            go_wp2_with (first
              | (at_builtin; refine wpList_append_run rfl _ _ _ rfl _ _ rfl rfl HR4.out ?_))
            go_roundw
            case rel => exact ⟨k + 1, a ++ [c], by omega, by go_num, HE.out, hal2, HO4.out, HB4.out⟩
            case measure => simp [intOf]; omega
        | some ps =>
          have HPc : Hid (piece f c = ps) := by show _ = _; unfold piece; rw [if_pos hc0, hfn]; rfl
          have hps := HF.out _ _ hfn
          have hpi := hu ps hfn
          obtain ⟨pa, pc, rfl, _⟩ := Row.flat hpi
          have HPi := hid hpi
          clear hu hfn hb2 HCl hpi
          simp only [Option.isSome]
          by_cases hbig : 512 < a.length + ps.length
          · have HE : Hid (layGo f [] t = none) := by show _ = _; rw [HG.out, HD.out, layGo, HPc.out]; exact if_pos hbig
            have hbigz : (512 : Int) < (a.length : Int) + (ps.length : Int) := by omega
            go_wp2
            go_ret2
            exact ⟨_, by unfold layE; rw [HE.out]; rfl, by unfold layL; rw [HE.out]; exact nilI _ _, HBw.out⟩
          · obtain ⟨v4, w4, hr4, ho4, hg4⟩ := join_ints 23 HOw.out HPi.out HBw.out.size (by (try simp only [List.length_cons, List.length_nil]); omega)
            have HE : Hid (layGo f [] t = layGo f (a ++ ps) (t.drop (k + 1))) := by show _ = _; rw [HG.out, HD.out, layGo, HPc.out]; exact if_neg hbig
            have HR4 := hid hr4
            have HO4 := hid ho4
            have HB4 : Hid (Below w.heap.size w w4) := HBw.out.grown hg4 HBw.out.size (fun j hj => own_blk HOw.out.2 hj)
            have hbigz : ¬ (512 : Int) < (a.length : Int) + (ps.length : Int) := by omega
            have hal2 : (a ++ ps).length ≤ 512 := by rw [List.length_append]; (try simp only [List.length_cons, List.length_nil]); omega
            clear hr4 ho4 hg4
            go_wp2_with (first
              | (at_builtin; refine wpList_append_run rfl _ _ _ rfl _ _ rfl rfl HR4.out ?_))
            go_roundw
            case rel => exact ⟨k + 1, a ++ ps, by omega, by go_num, HE.out, hal2, HO4.out, HB4.out⟩
            case measure => simp [intOf]; omega
      · have HPc : Hid (piece f c = [c]) := by show _ = _; unfold piece; rw [if_neg hc0]
        have HBw := HB
        have HOw := HOr
        have HPi := HOne
        by_cases hbig : 512 < a.length + 1
        · have HE : Hid (layGo f [] t = none) := by show _ = _; rw [HG.out, HD.out, layGo, HPc.out]; exact if_pos hbig
          have hbigz : (512 : Int) < (a.length : Int) + 1 := by omega
          go_wp2
          go_ret2
          exact ⟨_, by unfold layE; rw [HE.out]; rfl, by unfold layL; rw [HE.out]; exact nilI _ _, HBw.out⟩
        · obtain ⟨v4, w4, hr4, ho4, hg4⟩ := join_ints 23 HOw.out HPi.out HBw.out.size (by (try simp only [List.length_cons, List.length_nil]); omega)
          have HE : Hid (layGo f [] t = layGo f (a ++ [c]) (t.drop (k + 1))) := by show _ = _; rw [HG.out, HD.out, layGo, HPc.out]; exact if_neg hbig
          have HR4 := hid hr4
          have HO4 := hid ho4
          have HB4 : Hid (Below w.heap.size w w4) := HBw.out.grown hg4 HBw.out.size (fun j hj => own_blk HOw.out.2 hj)
          have hbigz : ¬ (512 : Int) < (a.length : Int) + 1 := by omega
          have hal2 : (a ++ [c]).length ≤ 512 := by rw [List.length_append]; (try simp only [List.length_cons, List.length_nil]); omega
          clear hr4 ho4 hg4
          go_wp2_with (first
            | (at_builtin; refine wpList_append_run rfl _ _ _ rfl _ _ rfl rfl HR4.out ?_))
          go_roundw
          case rel => exact ⟨k + 1, a ++ [c], by omega, by go_num, HE.out, hal2, HO4.out, HB4.out⟩
          case measure => simp [intOf]; omega
    · have HE : Hid (layGo f [] t = some a) := by show _ = _; rw [HG.out, List.drop_of_length_le (by omega)]; rfl
      go_wp2
      go_ret2
      exact ⟨_, by unfold layE; rw [HE.out]; rfl, by unfold layL; rw [HE.out]; exact HOr.out, HB.out⟩

end Go.Proofs.YtpnkplidhbbliaaDoor

/- What Apply answers. -/
namespace Go.Proofs.YtpnkplidhbbliaaDoor
open Go.RowKit Go.Maps

/-- What a variable becomes by binds. -/
def bnd (s : List Bd) (n : Int) : Option (List Int) := s.reverse.lookup n

theorem lookup_mem {α : Type} : ∀ {l : List (Int × α)} {n : Int} {x : α}, l.lookup n = some x → (n, x) ∈ l
  | (k, v) :: l, n, x, h => by
    rw [List.lookup_cons] at h
    cases hk : n == k with
    | true =>
      rw [hk] at h
      cases h
      rw [beq_iff_eq] at hk
      subst hk
      exact .head _
    | false =>
      rw [hk] at h
      exact .tail _ (lookup_mem h)

theorem bind_rise (sig : List Sy) : ∀ (s : List Bd) (p : Option Int), bindGo sig p s = 0 → (∀ y, p = some y → ∀ b ∈ s, y < b.1) ∧ s.Pairwise (fun a b => a.1 < b.1)
  | [], _, _ => ⟨fun _ _ b hb => (by cases hb), List.Pairwise.nil⟩
  | b :: r, p, h => by
    unfold bindGo at h
    split at h
    · split at h
      · cases h
      · rename_i hp
        split at h
        · obtain ⟨h1, h2⟩ := bind_rise sig r (some b.1) h
          have h1' := h1 b.1 rfl
          refine ⟨fun y hy c hc => ?_, List.Pairwise.cons h1' h2⟩
          subst hy
          have hyb : y < b.1 := by simpa using hp
          cases hc with
          | head => exact hyb
          | tail _ hc => have := h1' c hc; omega
        · rename_i he
          exact absurd h he
    · cases h

theorem bind_new {s : List Bd} (h : s.Pairwise (fun a b => a.1 < b.1)) {k : Nat} {x : Int} {t : List Int} (hk : s[k]? = some (x, t)) : (s.take k).reverse.lookup x = none := by
  cases hl : (s.take k).reverse.lookup x with
  | none => rfl
  | some u =>
    have hm := lookup_mem hl
    rw [List.mem_reverse] at hm
    obtain ⟨j, hj, he⟩ := List.getElem_of_mem hm
    rw [List.length_take] at hj
    have hkl : k < s.length := (List.getElem?_eq_some_iff.1 hk).1
    have h2 := List.pairwise_iff_getElem.1 h j k (by omega) hkl (by omega)
    rw [List.getElem_take] at he
    rw [he, (List.getElem?_eq_some_iff.1 hk).2] at h2
    simp at h2

theorem Bs.small {w : World} {v : Value} {s : List Bd} (h : Bs w v s) {b : Bd} (hb : b ∈ s) : b.2.length * 8 ≤ 140737488351232 := by
  obtain ⟨ao, cap, rfl, _, _, hx⟩ := Row.flat h
  obtain ⟨k, hk, rfl⟩ := List.getElem_of_mem hb
  obtain ⟨g, off, x, _, hm, _, _, h3, _⟩ := hx k hk
  rw [List.getElem?_eq_getElem hk] at hm
  cases hm
  exact h3

def applyE (sig : List Sy) (s : List Bd) (t : List Int) : Int := if bindE sig s = 0 then (if termE sig t = 0 then layE (bnd s) t else termE sig t) else bindE sig s
def applyL (sig : List Sy) (s : List Bd) (t : List Int) : List Int := if bindE sig s = 0 then (if termE sig t = 0 then layL (bnd s) t else []) else []

set_option maxRecDepth 100000 in
set_option maxHeartbeats 1600000 in
theorem apply_any (sv bv v : Value) (sig : List Sy) (s : List Bd) (t : List Int) (w : World) (hs : Sg w sv sig) (hB : Bs w bv s) (h : Is w v t) (hT : Tabs w) (hb : t.length * 8 ≤ 140737488351232) :
    Calls Tryd.prog 17 #[sv, bv, v] w fun e w' => ∃ v', e = .returned (.tuple #[v', .int .i64 (applyE sig s t)]) ∧ OwI w' w.heap.size v' (applyL sig s t) ∧ Below w.heap.size w w' := by
  have HS := hid hs
  have HBs := hid hB
  have HI := hid h
  have HT := hid hT
  clear hs hB h hT
  go_enter Tryd.func17, Tryd.ntmps17
  go_wp2_with fail
  refine (substCheck_any sv bv sig s w HS.out HBs.out HT.out).mono ?_
  rintro e w1 ⟨rfl, hb1⟩
  have HB1 := hid hb1
  clear hb1
  by_cases he : bindE sig s = 0
  · rw [he]
    go_wp2_with fail
    refine (check_any sv v sig t w1 (HS.out.kp (Kp.of_below HB1.out)) (HI.out.kp (Kp.of_below HB1.out)) (HT.out.below HB1.out) hb).mono ?_
    rintro e w2 ⟨rfl, hb2⟩
    have HB2 : Hid (Below w.heap.size w w2) := below_step HB1.out hb2
    clear hb2
    by_cases hte : termE sig t = 0
    · rw [hte]
      have HE : Hid (applyE sig s t = layE (bnd s) t) := by show _ = _; unfold applyE; rw [if_pos he, if_pos hte]
      have HL : Hid (applyL sig s t = layL (bnd s) t) := by show _ = _; unfold applyL; rw [if_pos he, if_pos hte]
      have HNew : Hid (∀ k x t, s[k]? = some (x, t) → (s.take k).reverse.lookup x = none) := fun k x t hk => bind_new (bind_rise sig s none (by
        unfold bindE at he
        split at he
        · exact he
        · rename_i h0; exact absurd he h0)).2 hk
      clear he hte
      go_wp2_with fail
      refine (boundTerms_any bv s w2 (HBs.out.kp (Kp.of_below HB2.out)) HNew.out).mono ?_
      rintro e w3 ⟨b, bx, L, rfl, hc, hm, hte, hb3⟩
      have HB3 : Hid (Below w.heap.size w w3) := below_step HB2.out hb3
      have HLay := hid (lay_any (bnd s) 54 (.pointer (some ⟨bx, 0, none⟩)) v t w3 (HI.out.kp (Kp.of_below HB3.out)) hb (fun n u hn => HBs.out.small (List.mem_reverse.1 (lookup_mem hn)))
        (fun n W h0 h1 hW => (bound_closure n b bx L W ((Kp.of_below hW).cell _ _ hc) (hm.later hW) (by omega) h1).mono (fun e w4 he => by
          obtain ⟨rfl, rfl⟩ := he
          obtain ⟨k1, k2⟩ := (hte.kp (Kp.of_below hW)).look n
          refine ⟨(L.lookup n).getD (.slice none 0 0), ?_, fun x hx => ?_, Below.refl _ _⟩
          · cases hbn : bnd s n with
            | none => rw [k2 hbn]; rfl
            | some x => obtain ⟨y, hy, _⟩ := k1 x hbn; rw [hy]; rfl
          · obtain ⟨y, hy, hi⟩ := k1 x hx
            rw [hy]
            exact hi))
        (enters_of Tryd.func54 (by kernel_rfl) rfl))
      clear hc hm hte hb3
      go_wp2_with fail
      refine HLay.out.mono ?_
      rintro e w4 ⟨v', rfl, ho, hb4⟩
      have HO : Hid (OwI w4 w.heap.size v' (layL (bnd s) t)) := ho.mono HB3.out.size
      have HB4 : Hid (Below w.heap.size w w4) := below_step HB3.out hb4
      clear ho hb4 HLay
      go_wp2
      go_ret2
      exact ⟨_, by rw [HE.out]; rfl, by rw [HL.out]; exact HO.out, HB4.out⟩
    · have HE : Hid (applyE sig s t = termE sig t) := by show _ = _; unfold applyE; rw [if_pos he, if_neg hte]
      have HL : Hid (applyL sig s t = []) := by show _ = _; unfold applyL; rw [if_pos he, if_neg hte]
      clear he
      generalize termE sig t = E at hte HE ⊢
      have heb : (E != 0) = true := by simpa using hte
      go_wp2
      go_ret2
      exact ⟨_, by rw [HE.out]; rfl, by rw [HL.out]; exact nilI _ _, HB2.out⟩
  · have HE : Hid (applyE sig s t = bindE sig s) := by show _ = _; unfold applyE; rw [if_neg he]
    have HL : Hid (applyL sig s t = []) := by show _ = _; unfold applyL; rw [if_neg he]
    generalize bindE sig s = E at he HE ⊢
    have heb : (E != 0) = true := by simpa using he
    go_wp2
    go_ret2
    exact ⟨_, by rw [HE.out]; rfl, by rw [HL.out]; exact nilI _ _, HB1.out⟩

end Go.Proofs.YtpnkplidhbbliaaDoor

/- Binds laid, plainly; one after the other. -/
namespace Go.Proofs.YtpnkplidhbbliaaDoor
open Go.RowKit Go.Maps

/-- What comes of a row, of whatever length. -/
def laidL (f : Int → Option (List Int)) (t : List Int) : List Int := t.flatMap (piece f)

theorem layGo_eq (f : Int → Option (List Int)) : ∀ (t a : List Int), a.length ≤ 512 → layGo f a t = if 512 < a.length + (laidL f t).length then none else some (a ++ laidL f t)
  | [], a, h => by
    unfold layGo laidL
    rw [List.flatMap_nil, List.append_nil, if_neg (by simp; omega)]
  | c :: t, a, h => by
    unfold layGo
    have hl : (laidL f (c :: t)).length = (piece f c).length + (laidL f t).length := by unfold laidL; rw [List.flatMap_cons, List.length_append]
    by_cases h5 : 512 < a.length + (piece f c).length
    · rw [if_pos h5, if_pos (by omega)]
    · rw [if_neg h5, layGo_eq f t (a ++ piece f c) (by rw [List.length_append]; omega), List.length_append]
      by_cases h6 : 512 < a.length + (piece f c).length + (laidL f t).length
      · rw [if_pos h6, if_pos (by omega)]
      · rw [if_neg h6, if_neg (by omega)]
        unfold laidL
        rw [List.flatMap_cons, List.append_assoc]

theorem lay_eq (f : Int → Option (List Int)) (t : List Int) : layE f t = (if 512 < (laidL f t).length then 2 else 0) ∧ layL f t = if 512 < (laidL f t).length then [] else laidL f t := by
  unfold layE layL
  rw [layGo_eq f t [] (by simp)]
  rw [List.length_nil, Nat.zero_add, List.nil_append]
  by_cases h : 512 < (laidL f t).length
  · rw [if_pos h, if_pos h, if_pos h]
    exact ⟨rfl, rfl⟩
  · rw [if_neg h, if_neg h, if_neg h]
    exact ⟨rfl, rfl⟩

/-- One after the other: the binds that do both. -/
theorem laid_after (f g h : Int → Option (List Int)) (hh : ∀ n, h n = match f n with | some u => some (laidL g u) | none => g n) (t : List Int) : laidL h t = laidL g (laidL f t) := by
  induction t with
  | nil => rfl
  | cons c t ih =>
    unfold laidL at ih ⊢
    rw [List.flatMap_cons, List.flatMap_cons, List.flatMap_append, ih]
    congr 1
    by_cases hc : c < 0
    · unfold piece
      rw [if_pos hc, if_pos hc, hh]
      cases hf : f (-1 - c) with
      | some u => rfl
      | none =>
        show (g (-1 - c)).getD [c] = ([c]).flatMap _
        rw [List.flatMap_cons, List.flatMap_nil, List.append_nil, if_pos hc]
    · have e : ∀ k, piece k c = [c] := fun k => by unfold piece; rw [if_neg hc]
      rw [e, e, List.flatMap_cons, List.flatMap_nil, List.append_nil, e]

end Go.Proofs.YtpnkplidhbbliaaDoor

/- The document's names, plainly; its letters, names and marked names walked. -/
namespace Go.Proofs.YtpnkplidhbbliaaDoor
open Go.RowKit Go.Maps Go.Lib

/-- What the runes of a text come to, one behind the other. -/
def encGo : Nat → List UInt8 → List UInt8
  | 0, _ => []
  | n + 1, l => if l = [] then [] else (Utf8.encode ((decodeL l).1 : Int)).data.toList ++ encGo n (l.drop (decodeL l).2)

theorem enc_bytes (r : Nat) : (Utf8.encode (r : Int)).data.toList = encodeRune (r : Int) := by
  have h := Go.Extern.FmtText.encode_eq r
  unfold encodeRune
  rw [← h]
  have e : (fun x : Int => x.toNat.toUInt8) ∘ (fun x : UInt8 => (x.toNat : Int)) = id := by funext x; simp
  unfold Go.Extern.FmtText.nums
  rw [List.map_map, e, List.map_id]

theorem encGo_valid : ∀ (n : Nat) (l : List UInt8), l.length ≤ n → (encGo n l = l ↔ validD l = true)
  | 0, l, h => by
    obtain rfl : l = [] := List.eq_nil_of_length_eq_zero (by omega)
    exact ⟨fun _ => rfl, fun _ => rfl⟩
  | n + 1, l, h => by
    by_cases h0 : l = []
    · subst h0
      exact ⟨fun _ => rfl, fun _ => by simp [encGo]⟩
    · have hw := decodeL_width l
      have hl : 0 < l.length := List.length_pos_iff.2 h0
      rw [validD_step l h0, encGo, if_neg h0]
      by_cases hb : (decodeL l).1 = 65533 ∧ (decodeL l).2 = 1
      · rw [if_pos hb]
        refine ⟨fun e => ?_, fun e => by cases e⟩
        exfalso
        rw [hb.1, show (Utf8.encode ((65533 : Nat) : Int)).data.toList = [239, 191, 189] by rfl] at e
        have e2 := hb.2
        rw [← e, decodeL_N] at e2
        simp [decodeN] at e2
      · rw [if_neg hb, enc_bytes, encode_decode l h0 hb]
        rw [← encGo_valid n (l.drop (decodeL l).2) (by rw [List.length_drop]; omega)]
        refine ⟨fun e => ?_, fun e => ?_⟩
        · refine (List.append_right_inj (l.take (decodeL l).2)).1 ?_
          rw [e, List.take_append_drop]
        · rw [e, List.take_append_drop]

/-- The bytes behind the first of a rune. -/
theorem rune_bytes (s : ByteArray) (pos j : Nat) (h1 : 1 ≤ j) (h2 : j < (Utf8.decode s pos).2) : 128 ≤ (s.data.toList.getD (pos + j) 0).toNat := by
  rw [decode_N] at h2
  rcases decodeN_shape (s.data.toList.length - pos) (s.data.toList.getD pos 0).toNat (s.data.toList.getD (pos + 1) 0).toNat (s.data.toList.getD (pos + 2) 0).toNat (s.data.toList.getD (pos + 3) 0).toNat with ⟨c, e⟩ | ⟨c1, c2, c3, cv, e⟩ | ⟨c1, c2, c3, c4, cv, cs, e⟩ | ⟨c1, c2, c3, c4, c5, cv, cw, e⟩ | e
  · rw [e] at h2; simp only at h2; omega
  · rw [e] at h2; simp only at h2
    obtain rfl : j = 1 := by omega
    omega
  · rw [e] at h2; simp only at h2
    have hj : j = 1 ∨ j = 2 := by omega
    rcases hj with rfl | rfl <;> omega
  · rw [e] at h2; simp only at h2
    have hj : j = 1 ∨ j = 2 ∨ j = 3 := by omega
    rcases hj with rfl | rfl | rfl <;> omega
  · rw [e] at h2; simp only at h2; omega

/-- A text that ends in a mark is no name. -/
theorem nm_hash (s : ByteArray) (hl : s.data.toList.getD (s.size - 1) 0 = 35) : ∀ (b pos : Nat), pos < s.size → s.size ≤ pos + b → nmGo s b pos = false
  | 0, pos, h1, h2 => by omega
  | b + 1, pos, h1, h2 => by
    rw [nmGo, if_pos h1]
    have hw := Lib.width_pos s pos
    by_cases h3 : pos + (Utf8.decode s pos).2 < s.size
    · rw [nm_hash s hl b _ h3 (by omega), Bool.and_false]
    · have hp : pos = s.size - 1 := by
        by_cases h4 : pos = s.size - 1
        · exact h4
        · exfalso
          have := rune_bytes s pos (s.size - 1 - pos) (by omega) (by omega)
          rw [show pos + (s.size - 1 - pos) = s.size - 1 by omega, hl] at this
          simp at this
      have hd : (Utf8.decode s pos).1 = 35 := by
        rw [decode_N, hp, hl]
        simp [decodeN]
      rw [hd]
      simp [letB, folB]

/-- A text with one sign less. -/
def init1 (s : ByteArray) : ByteArray := s.extract 0 (s.size - 1)
def lastB (s : ByteArray) : UInt8 := s.data.toList.getD (s.size - 1) 0
def markB (s : ByteArray) : Bool := decide (0 < s.size) && (decide (lastB s = 35) && nameB (validD (init1 s).data.toList) (init1 s))

theorem bare_hash (s : ByteArray) (h0 : 0 < s.size) (h : lastB s = 35) : bare s = init1 s := by
  have hl : s.data.toList.length = s.size := (size_eq s).symm
  have hx : s.data.toList.drop (s.size - 1) = [35] := by
    unfold lastB at h
    rw [List.drop_eq_getElem_cons (by omega), List.drop_of_length_le (by omega)]
    rw [List.getD_eq_getElem?_getD, List.getElem?_eq_getElem (by omega), Option.getD_some] at h
    rw [h]
  have hs : hasSuffix s.data.toList "#".toUTF8.data.toList = true := by
    show hasSuffix s.data.toList [35] = true
    unfold hasSuffix
    rw [List.isSuffixOf_iff_suffix]
    exact ⟨s.data.toList.take (s.size - 1), by rw [← hx, List.take_append_drop]⟩
  unfold bare init1 trimSuffix
  rw [if_pos hs]
  apply ByteArray.ext
  apply Array.ext'
  show s.data.toList.take (s.data.toList.length - 1) = (s.extract 0 (s.size - 1)).data.toList
  rw [ByteArray.data_extract, Array.toList_extract, hl]
  simp

theorem bare_plain (s : ByteArray) (h : ¬ (0 < s.size ∧ lastB s = 35)) : bare s = s := by
  have hl : s.data.toList.length = s.size := (size_eq s).symm
  have hs : ¬ hasSuffix s.data.toList "#".toUTF8.data.toList = true := by
    show ¬ hasSuffix s.data.toList [35] = true
    unfold hasSuffix
    rw [List.isSuffixOf_iff_suffix]
    rintro ⟨l, e⟩
    have hn := congrArg List.length e
    simp only [List.length_append, List.length_cons, List.length_nil] at hn
    refine h ⟨by omega, ?_⟩
    unfold lastB
    rw [← e, show s.size - 1 = l.length by omega]
    simp
  unfold bare trimSuffix
  rw [if_neg hs]

/-- A symbol's name is a name, or a marked one. -/
theorem sym_ref (s : ByteArray) : symB s = (nameB (validD s.data.toList) s || markB s) := by
  unfold symB markB
  by_cases h : 0 < s.size ∧ lastB s = 35
  · have hn : nameB (validD s.data.toList) s = false := by
      unfold nameB
      rw [nm_hash s h.2 s.size 0 h.1 (by omega)]
      simp
    rw [hn, bare_hash s h.1 h.2, decide_eq_true h.1, decide_eq_true h.2]
    simp
  · rw [bare_plain s h]
    by_cases h0 : 0 < s.size
    · rw [decide_eq_false (fun h1 => h ⟨h0, h1⟩)]
      simp
    · rw [decide_eq_false h0]
      simp
set_option maxRecDepth 100000 in
theorem refLetter_any (r : Int) (w : World) : Calls Tryd.prog 75 #[.int .i32 r] w fun e w' => e = .returned (.bool (letB r)) ∧ w' = w := by
  obtain ⟨B, hB⟩ : ∃ B, B = letB r := ⟨_, rfl⟩
  rw [← hB]
  have HB : Hid (B = letB r) := hB
  clear hB
  go_enter Tryd.func75, Tryd.ntmps75
  by_cases h1 : 97 ≤ r
  · by_cases h2 : r ≤ 122
    · have HF : Hid (B = true) := by show _ = _; rw [HB.out]; unfold letB; simp [h1, h2]
      clear HB
      go_wp2
      go_ret
      exact ⟨ret1b HF.out.symm, rfl⟩
    · have HF : Hid (B = decide (128 ≤ r)) := by show _ = _; rw [HB.out]; unfold letB; rw [decide_eq_false h2, decide_eq_false (show ¬ r ≤ 90 by omega)]; simp
      clear HB
      have h3 : 65 ≤ r := by omega
      have h4 : ¬ r ≤ 90 := by omega
      go_wp2
      go_ret
      exact ⟨ret1b HF.out.symm, rfl⟩
  · by_cases h3 : 65 ≤ r
    · by_cases h4 : r ≤ 90
      · have HF : Hid (B = true) := by show _ = _; rw [HB.out]; unfold letB; simp [h3, h4]
        clear HB
        go_wp2
        go_ret
        exact ⟨ret1b HF.out.symm, rfl⟩
      · have HF : Hid (B = decide (128 ≤ r)) := by show _ = _; rw [HB.out]; unfold letB; rw [decide_eq_false h1, decide_eq_false h4]; simp
        clear HB
        go_wp2
        go_ret
        exact ⟨ret1b HF.out.symm, rfl⟩
    · have HF : Hid (B = decide (128 ≤ r)) := by show _ = _; rw [HB.out]; unfold letB; rw [decide_eq_false h1, decide_eq_false h3]; simp
      clear HB
      go_wp2
      go_ret
      exact ⟨ret1b HF.out.symm, rfl⟩

def morB (r : Int) : Bool := letB r || folB r

set_option maxRecDepth 100000 in
theorem refMore_any (r : Int) (w : World) : Calls Tryd.prog 76 #[.int .i32 r] w fun e w' => e = .returned (.bool (morB r)) ∧ w' = w := by
  obtain ⟨B, hB⟩ : ∃ B, B = morB r := ⟨_, rfl⟩
  rw [← hB]
  have HB : Hid (B = morB r) := hB
  clear hB
  go_enter Tryd.func76, Tryd.ntmps76
  go_wp2_with fail
  refine (refLetter_any r w).mono ?_
  rintro e w9 ⟨rfl, hw9⟩
  have hw8 := hw9.symm
  subst hw8
  clear hw9
  cases hL : letB r
  · have HF : Hid (B = folB r) := by show _ = _; rw [HB.out]; unfold morB; rw [hL]; rfl
    clear HB hL
    by_cases h1 : 48 ≤ r
    · by_cases h2 : r ≤ 57
      · have HG : Hid (B = true) := by show _ = _; rw [HF.out]; unfold folB; simp [h1, h2]
        clear HF
        go_wp2
        go_ret
        exact ⟨ret1b HG.out.symm, rfl⟩
      · by_cases h3 : r = 95
        · have HG : Hid (B = true) := by show _ = _; rw [HF.out]; unfold folB; simp [h3]
          have h3b : (r == 95) = true := by rw [beq_iff_eq]; exact h3
          clear HF
          go_wp2
          go_ret
          exact ⟨ret1b HG.out.symm, rfl⟩
        · have HG : Hid (B = decide (r = 39)) := by show _ = _; rw [HF.out]; unfold folB; rw [decide_eq_false h2, decide_eq_false h3]; simp
          have h3b : (r == 95) = false := by rw [beq_eq_false_iff_ne]; exact h3
          clear HF
          go_wp2
          go_ret
          exact ⟨ret1b (by rw [HG.out, decide_eq_false (show ¬ r ≤ 57 by omega)]; rfl), rfl⟩
    · by_cases h3 : r = 95
      · omega
      · have HG : Hid (B = decide (r = 39)) := by show _ = _; rw [HF.out]; unfold folB; rw [decide_eq_false h1, decide_eq_false h3]; simp
        have h3b : (r == 95) = false := by rw [beq_eq_false_iff_ne]; exact h3
        clear HF
        go_wp2
        go_ret
        exact ⟨ret1b (by rw [HG.out]; rfl), rfl⟩
  · have HF : Hid (B = true) := by show _ = _; rw [HB.out]; unfold morB; rw [hL]; rfl
    clear HB hL
    go_wp2
    go_ret
    exact ⟨ret1b HF.out.symm, rfl⟩

end Go.Proofs.YtpnkplidhbbliaaDoor

/- The document's names walked. -/
namespace Go.Proofs.YtpnkplidhbbliaaDoor
open Go.RowKit Go.Maps Go.Lib

theorem encGo_nil (n : Nat) : encGo n [] = [] := by cases n <;> simp [encGo]

theorem encGo_more (s : ByteArray) (b pos : Nat) (h : pos < s.size) : encGo (b + 1) (s.data.toList.drop pos) = (Utf8.encode ((Utf8.decode s pos).1 : Int)).data.toList ++ encGo b (s.data.toList.drop (pos + (Utf8.decode s pos).2)) := by
  have hne : s.data.toList.drop pos ≠ [] := by
    intro h0
    have := congrArg List.length h0
    rw [List.length_drop, ← Go.Lib.size_eq] at this
    simp at this
    omega
  rw [encGo, if_neg hne, decodeL_drop, List.drop_drop]

set_option maxRecDepth 1000000 in
set_option maxHeartbeats 1600000 in
theorem refGood_any (s : ByteArray) (w : World) (hs : s.size ≤ 32) :
    Calls Tryd.prog 74 #[.string s] w fun e w' => e = .returned (.bool (validD s.data.toList)) ∧ Below w.heap.size w w' := by
  go_enter Tryd.func74, Tryd.ntmps74
  go_wp2
  go_loopw [3] (fun x w' => ∃ (pos b : Nat) (acc : ByteArray), x = .string acc ∧ w' = w.iter s pos ∧ encGo s.size s.data.toList = acc.data.toList ++ encGo b (s.data.toList.drop pos) ∧ s.size ≤ pos + b ∧ acc.size ≤ 4 * pos) (fun _ w' => s.size - w'.iterPos w.heap.size)
  case atStart => exact ⟨0, s.size, ByteArray.empty, rfl, rfl, by simp, by omega, by simp⟩
  case round =>
    obtain ⟨pos, b, acc, rfl, rfl, hc, hb, hz⟩ := hrel
    have HC := hid hc
    clear hc
    by_cases hp : pos < s.size
    · have hnx : ∀ ty, (Instr.next (.pointer (some ⟨w.heap.size, 0, none⟩)) true ty).run Tryd.prog (w.iter s pos) = _ := fun ty => run_next_any w s pos ty hp
      have hwd := Lib.width_pos s pos
      obtain ⟨b', rfl⟩ : ∃ b', b = b' + 1 := ⟨b - 1, by omega⟩
      have hstep := encGo_more s b' pos hp
      obtain ⟨r, hr⟩ : ∃ r : Nat, r = (Utf8.decode s pos).1 := ⟨_, rfl⟩
      obtain ⟨wd, hwd2⟩ : ∃ wd : Nat, wd = (Utf8.decode s pos).2 := ⟨_, rfl⟩
      rw [← hr, ← hwd2] at hstep hnx
      rw [← hwd2] at hwd
      obtain ⟨E, hE⟩ : ∃ E : ByteArray, E = Utf8.encode (r : Int) := ⟨_, rfl⟩
      have hcv : ∀ W : World, (convert 21 9 (.int .i32 (r : Int))).run Tryd.prog W = .ok (.string E) W := fun W => by rw [hE]; exact run_convert_int_string W 21 9 .i32 r (by kernel_rfl) (by kernel_rfl)
      rw [← hE] at hstep
      have HS : Hid (encGo s.size s.data.toList = (acc ++ E).data.toList ++ encGo b' (s.data.toList.drop (pos + wd))) := by
        show _ = _
        rw [HC.out, hstep, ByteArray.data_append, Array.toList_append, List.append_assoc]
      have HZ : Hid ((acc ++ E).size ≤ 4 * (pos + wd)) := by
        have h4 := encode_size_le (r : Int)
        rw [← hE] at h4
        show _ ≤ _
        rw [ByteArray.size_append]
        omega
      have HFi : Hid (s.size ≤ pos + wd + b') := by show _ ≤ _; omega
      have hE4 : E.size ≤ 4 := by rw [hE]; exact encode_size_le (r : Int)
      have hAE : ¬ 9223372036854775807 < acc.size + E.size := by omega
      clear hr hwd2 hstep HC hE
      go_wp2
      go_roundw
      case rel => exact ⟨pos + wd, b', _, rfl, rfl, HS.out, HFi.out, HZ.out⟩
      case measure => simp; omega
    · have HE : Hid (∀ B, (acc.data.toList = s.data.toList ↔ B = true) → B = validD s.data.toList) := fun B h => by
        have h1 := HC.out
        rw [List.drop_of_length_le (by rw [← Go.Lib.size_eq]; omega), encGo_nil, List.append_nil] at h1
        have h2 := encGo_valid s.size s.data.toList (by rw [← Go.Lib.size_eq]; omega)
        rw [h1] at h2
        rw [Bool.eq_iff_iff, ← h, h2]
      have hnx : ∀ ty, (Instr.next (.pointer (some ⟨w.heap.size, 0, none⟩)) true ty).run Tryd.prog (w.iter s pos) = _ := fun ty => run_next_end w s pos ty hp
      clear HC
      go_wp2
      go_ret
      refine ⟨ret1b (HE.out _ ?_), below_iter _ _ _⟩
      simp [ByteArray.toList_eq]

set_option maxRecDepth 1000000 in
set_option maxHeartbeats 1600000 in
theorem refName_of (B : Bool) (s : ByteArray) (w : World) (hs : s.size ≤ 9223372036854775807) (hG : s.size ≤ 32 → Calls Tryd.prog 74 #[.string s] w fun e w' => e = .returned (.bool B) ∧ Below w.heap.size w w') :
    Calls Tryd.prog 55 #[.string s] w fun e w' => e = .returned (.bool (nameB B s)) ∧ Below w.heap.size w w' := by
  have HGo := hid hG
  clear hG
  go_enter Tryd.func55, Tryd.ntmps55
  by_cases h0 : s.size = 0
  · have he : s.toList.isEmpty = true := by
      have hl : s.toList.length = 0 := by rw [← h0]; simp [ByteArray.toList_eq]
      rw [List.length_eq_zero_iff.mp hl]; rfl
    have HF : Hid (nameB B s = false) := by show _ = _; unfold nameB; rw [decide_eq_true h0]; rfl
    go_wp2
    go_ret
    exact ⟨ret1b HF.out.symm, Below.refl _ _⟩
  · have he : s.toList.isEmpty = false := by
      cases hl : s.toList with
      | nil => exact absurd (by have := congrArg List.length hl; simpa [ByteArray.toList_eq] using this) h0
      | cons a l => rfl
    by_cases h32 : 32 < s.size
    · have HF : Hid (nameB B s = false) := by show _ = _; unfold nameB; rw [decide_eq_true h32]; simp
      go_wp2
      go_ret
      exact ⟨ret1b HF.out.symm, Below.refl _ _⟩
    · go_wp2_with fail
      refine (HGo.out (by omega)).mono ?_
      rintro e w1 ⟨rfl, hb1⟩
      have HB1 : Hid (Below w.heap.size w w1) := hb1
      clear hb1
      cases B
      · have HF : Hid (nameB false s = false) := by show _ = _; unfold nameB; simp
        go_wp2
        go_ret
        exact ⟨ret1b HF.out.symm, HB1.out⟩
      · have HF : Hid (nameB true s = nmGo s s.size 0) := by show _ = _; unfold nameB; rw [decide_eq_false h0, decide_eq_false h32]; rfl
        go_wp2
        go_loopw [] (fun w' => ∃ (pos b : Nat), w' = w1.iter s pos ∧ nmGo s s.size 0 = nmGo s b pos ∧ s.size ≤ pos + b) (fun w' => s.size - w'.iterPos w1.heap.size)
        case atStart => exact ⟨0, s.size, rfl, rfl, by omega⟩
        case round =>
          obtain ⟨pos, b, rfl, hc, hb⟩ := hrel
          have HC : Hid (nmGo s s.size 0 = nmGo s b pos) := hc
          clear hc
          by_cases hp : pos < s.size
          · have hnx0 := fun ty => run_next_any (P := Tryd.prog) w1 s pos ty hp
            have hwd := Go.Lib.width_pos s pos
            obtain ⟨b', rfl⟩ : ∃ b', b = b' + 1 := ⟨b - 1, by omega⟩
            obtain ⟨r, hr⟩ : ∃ r : Nat, r = (Utf8.decode s pos).1 := ⟨_, rfl⟩
            obtain ⟨wd, hwd2⟩ : ∃ wd : Nat, wd = (Utf8.decode s pos).2 := ⟨_, rfl⟩
            obtain ⟨q, hq⟩ : ∃ q : Nat, q = pos + wd := ⟨_, rfl⟩
            have HS : Hid (nmGo s s.size 0 = ((letB (r : Int) || (!decide (pos = 0) && folB (r : Int))) && nmGo s b' q)) := by
              show _ = _
              rw [HC.out, nmGo, if_pos hp, ← hr, ← hwd2, ← hq]
            rw [← hwd2] at hwd
            have HFi : Hid (s.size ≤ q + b') := by show _ ≤ _; omega
            have hqp : pos < q := by omega
            rw [← hr, ← hwd2, ← hq] at hnx0
            have HNx := hid hnx0
            clear hr hwd2 hq HC hnx0
            by_cases hp0 : pos = 0
            · subst hp0
              have hnx : ∀ ty, (Instr.next (.pointer (some ⟨w1.heap.size, 0, none⟩)) true ty).run Tryd.prog (w1.iter s 0) = _ := HNx.out
              go_wp2_with fail
              refine (refLetter_any (r : Int) _).mono ?_
              rintro e w9 ⟨rfl, hw9⟩
              have hw8 := hw9.symm
              subst hw8
              clear hw9 hnx
              cases hL : letB (r : Int)
              · have HFF : Hid (nameB true s = false) := by show _ = _; rw [HF.out, HS.out, hL]; rfl
                go_wp2
                go_ret
                exact ⟨ret1b HFF.out.symm, below_step HB1.out (below_iter _ _ _)⟩
              · have HN : Hid (nmGo s s.size 0 = nmGo s b' q) := by show _ = _; rw [HS.out, hL]; rfl
                have HMo : Hid (morB (r : Int) = true) := by show _ = _; unfold morB; rw [hL]; rfl
                go_wp2_with fail
                refine (refMore_any (r : Int) _).mono ?_
                rintro e w9 ⟨rfl, hw9⟩
                have hw8 := hw9.symm
                subst hw8
                clear hw9
                rw [HMo.out]
                go_wp2
                go_roundw
                case rel => exact ⟨q, b', rfl, HN.out, HFi.out⟩
                case measure => simp; omega
            · have hp0b : ((pos : Int) == 0) = false := by rw [beq_eq_false_iff_ne]; omega
              have hnx : ∀ ty, (Instr.next (.pointer (some ⟨w1.heap.size, 0, none⟩)) true ty).run Tryd.prog (w1.iter s pos) = _ := HNx.out
              go_wp2_with fail
              refine (refMore_any (r : Int) _).mono ?_
              rintro e w9 ⟨rfl, hw9⟩
              have hw8 := hw9.symm
              subst hw8
              clear hw9 hnx
              have HS2 : Hid (nmGo s s.size 0 = (morB (r : Int) && nmGo s b' q)) := by show _ = _; rw [HS.out, decide_eq_false hp0]; rfl
              cases hM : morB (r : Int)
              · have HFF : Hid (nameB true s = false) := by show _ = _; rw [HF.out, HS2.out, hM]; rfl
                go_wp2
                go_ret
                exact ⟨ret1b HFF.out.symm, below_step HB1.out (below_iter _ _ _)⟩
              · have HN : Hid (nmGo s s.size 0 = nmGo s b' q) := by show _ = _; rw [HS2.out, hM]; rfl
                go_wp2
                go_roundw
                case rel => exact ⟨q, b', rfl, HN.out, HFi.out⟩
                case measure => simp; omega
          · have HFF : Hid (nameB true s = true) := by show _ = _; rw [HF.out, HC.out, nmGo_end s b pos hp]
            have hnx : ∀ ty, (Instr.next (.pointer (some ⟨w1.heap.size, 0, none⟩)) true ty).run Tryd.prog (w1.iter s pos) = _ := fun ty => run_next_end w1 s pos ty hp
            go_wp2
            go_ret
            exact ⟨ret1b HFF.out.symm, below_step HB1.out (below_iter _ _ _)⟩

theorem refName_any (s : ByteArray) (w : World) (hs : s.size ≤ 9223372036854775807) :
    Calls Tryd.prog 55 #[.string s] w fun e w' => e = .returned (.bool (nameB (validD s.data.toList) s)) ∧ Below w.heap.size w w' := refName_of _ s w hs fun h => refGood_any s w h

end Go.Proofs.YtpnkplidhbbliaaDoor

/- The document's marked names walked. -/
namespace Go.Proofs.YtpnkplidhbbliaaDoor
open Go.RowKit Go.Maps Go.Lib

set_option maxRecDepth 100000 in
theorem refMarked_any (s : ByteArray) (w : World) (hs : s.size ≤ 9223372036854775807) :
    Calls Tryd.prog 56 #[.string s] w fun e w' => e = .returned (.bool (markB s)) ∧ Below w.heap.size w w' := by
  go_enter Tryd.func56, Tryd.ntmps56
  by_cases h0 : s.size = 0
  · have HF : Hid (markB s = false) := by show _ = _; unfold markB; rw [decide_eq_false (by omega)]; rfl
    go_wp2
    go_ret
    exact ⟨ret1b HF.out.symm, Below.refl _ _⟩
  · have h1 : 0 < s.size := by omega
    have hlast : lastB s = s[s.size - 1]'(by omega) := by
      unfold lastB
      rw [List.getD_eq_getElem?_getD, List.getElem?_eq_getElem (by rw [← Go.Lib.size_eq]; omega), Option.getD_some]
      rfl
    by_cases hc : lastB s = 35
    · have HF : Hid (markB s = nameB (validD (init1 s).data.toList) (init1 s)) := by show _ = _; unfold markB; rw [decide_eq_true h1, decide_eq_true hc]; rfl
      have hz : ((s[s.size - 1]'(by omega)).toNat : Int) = 35 := by rw [← hlast, hc]; rfl
      have hsz : (init1 s).size ≤ 9223372036854775807 := by unfold init1; rw [ByteArray.size_extract]; omega
      have HC := hid (refName_any (init1 s) w hsz)
      generalize nameB (validD (init1 s).data.toList) (init1 s) = B at HF HC
      rw [show init1 s = s.extract 0 (s.size - 1) from rfl] at HC
      clear hlast hc hsz
      go_wp2_with fail
      refine HC.out.mono ?_
      rintro e w1 ⟨rfl, hb1⟩
      go_wp2
      go_ret
      exact ⟨ret1b HF.out.symm, hb1⟩
    · have HF : Hid (markB s = false) := by show _ = _; unfold markB; rw [decide_eq_false hc]; simp
      have hz : ¬ ((s[s.size - 1]'(by omega)).toNat : Int) = 35 := fun h => hc (by
        rw [hlast]
        apply UInt8.toNat_inj.1
        show _ = 35
        omega)
      clear hlast hc
      go_wp2
      go_ret
      exact ⟨ret1b HF.out.symm, Below.refl _ _⟩

end Go.Proofs.YtpnkplidhbbliaaDoor

/- What the document's CheckSig, Term and Check answer. -/
namespace Go.Proofs.YtpnkplidhbbliaaDoor
open Go.RowKit Go.Maps Go.BigFrame

set_option maxRecDepth 100000 in
set_option maxHeartbeats 1600000 in
theorem refCheckSig_any (sv : Value) (sig : List Sy) (w : World) (hs : Sg w sv sig) :
    Calls Tryd.prog 32 #[sv] w fun e w' => e = .returned (.int .i64 (sigE sig)) ∧ Below w.heap.size w w' := by
  obtain ⟨so, sc, rfl, hso, hsc, _⟩ := Row.flat hs
  unfold maxLen at hsc
  have HS : Hid (Sg w (.slice so sig.length sc) sig) := hs
  clear hs
  go_enter Tryd.func32, Tryd.ntmps32
  by_cases h128 : 128 < sig.length
  · have HR : Hid (sigE sig = 37) := by show _ = _; unfold sigE; rw [if_pos h128]
    go_wp2
    go_ret
    exact ⟨ret1i HR.out.symm, Below.refl _ _⟩
  · have HR : Hid (sigE sig = sigGo sig 0 sig) := by show _ = _; unfold sigE; rw [if_neg h128]
    go_wp2
    go_loopw [3] (fun i wr => ∃ k : Nat, k ≤ sig.length ∧ i = .int .i64 k ∧ sigGo sig 0 sig = sigGo sig k (sig.drop k) ∧ Below w.heap.size w wr) (fun i _ => sig.length - (intOf i).toNat)
    case atStart => exact ⟨0, Nat.zero_le _, rfl, rfl, Below.refl _ _⟩
    case round =>
      obtain ⟨k, hk, rfl, hgo, hbl⟩ := hrel
      have HG : Hid (sigGo sig 0 sig = sigGo sig k (sig.drop k)) := hgo
      clear hgo
      by_cases hlt : k < sig.length
      · have HSr : Hid (Sg wr (.slice so sig.length sc) sig) := HS.out.kp (Kp.of_below hbl)
        obtain ⟨g, off, s, a, rfl, hm, hc0, hc1, ha1, ha2, hs3⟩ := HSr.out.at hlt
        have HM := hid hm
        have HD : Hid (sigE sig = if symB s then (if a < 0 ∨ 8 < a then 35 else if hasB (sig.take k) s then 36 else sigGo sig (k + 1) (sig.drop (k + 1))) else 34) := by
          show _ = _
          rw [HR.out, HG.out, drop_get hm]
          rfl
        clear hm
        obtain ⟨SB, hsy⟩ : ∃ b, symB s = b := ⟨_, rfl⟩
        rw [hsy] at HD
        rw [sym_ref] at hsy
        go_upto_region 6 with fail
        go_cut [29] from 14 to 29 (fun r wx => r = .bool (!SB) ∧ Below wr.heap.size wr wx)
        case first =>
          go_wp2_with fail
          refine (refName_any s wr hs3).mono ?_
          rintro e w1 ⟨rfl, hb1⟩
          have hd0 := (Kp.of_below hb1).cell _ _ hc0
          have HB1 := hid hb1
          clear hb1
          cases hn : nameB (Lib.validD s.data.toList) s
          · go_wp2_with fail
            refine (refMarked_any s w1 hs3).mono ?_
            rintro e w2 ⟨rfl, hb2⟩
            rw [hn, Bool.false_or] at hsy
            rw [hsy]
            have HB2 := hid (below_step HB1.out hb2)
            clear hb2 hsy hn
            go_wp2
            go_meet
            exact ⟨rfl, HB2.out⟩
          · rw [hn, Bool.true_or] at hsy
            subst hsy
            go_wp2
            go_meet
            exact ⟨rfl, HB1.out⟩
        case rest =>
          obtain ⟨rfl, hbx⟩ := hcut
          have he0 := (Kp.of_below hbx).cell _ _ hc0
          have he1 := (Kp.of_below hbx).cell _ _ hc1
          have HBc := hid (below_step hbl hbx)
          have HSc := hid (HSr.out.kp (Kp.of_below hbx))
          clear hbx hc0 hc1 hsy hbl HSr
          cases SB
          · have HF : Hid (sigE sig = 34) := by show _ = _; rw [HD.out]; rfl
            go_wp2
            go_ret
            exact ⟨ret1i HF.out.symm, HBc.out⟩
          by_cases ha0 : a < 0
          · have HF : Hid (sigE sig = 35) := by show _ = _; rw [HD.out, if_pos rfl, if_pos (.inl ha0)]
            go_wp2
            go_ret
            exact ⟨ret1i HF.out.symm, HBc.out⟩
          by_cases ha8 : 8 < a
          · have HF : Hid (sigE sig = 35) := by show _ = _; rw [HD.out, if_pos rfl, if_pos (.inr ha8)]
            go_wp2
            go_ret
            exact ⟨ret1i HF.out.symm, HBc.out⟩
          have HF : Hid (sigE sig = if hasB (sig.take k) s then 36 else sigGo sig (k + 1) (sig.drop (k + 1))) := by show _ = _; rw [HD.out, if_pos rfl, if_neg (by omega)]
          clear HD
          go_wp2
          go_loopw [4] (fun x wy => ∃ j : Nat, j ≤ k ∧ x = .int .i64 j ∧ hasB (sig.take j) s = false ∧ Below wc.heap.size wc wy) (fun x _ => k - (intOf x).toNat)
          case atStart => exact ⟨0, Nat.zero_le _, rfl, rfl, Below.refl _ _⟩
          case round =>
            obtain ⟨j, hj, rfl, hno, hby⟩ := hrel
            have HNo := hid hno
            have HBy := hid (below_step HBc.out hby)
            have hf0 := (Kp.of_below hby).cell _ _ he0
            have hf1 := (Kp.of_below hby).cell _ _ he1
            clear hno
            by_cases hjk : j < k
            · obtain ⟨g', off', s2, a2, hq, hm2, hk0, _, _, _, _⟩ := (HSc.out.kp (Kp.of_below hby)).at (k := j) (by omega)
              obtain ⟨rfl, rfl⟩ : g = g' ∧ off = off' := by simpa using hq
              have hjl : j < sig.length := by omega
              have HA : Hid (hasB (sig.take (j + 1)) s = (hasB (sig.take j) s || sameS s2 s)) := by
                show _ = _
                unfold hasB
                rw [List.take_add_one, hm2, List.any_append]
                simp
              have HAll : Hid (hasB (sig.take (j + 1)) s = true → hasB (sig.take k) s = true) := fun h => by
                unfold hasB at h ⊢
                rw [List.any_eq_true] at h ⊢
                obtain ⟨x, hx, hx2⟩ := h
                exact ⟨x, List.take_subset_take_left _ (by omega) hx, hx2⟩
              clear hm2 hq
              cases hss : sameS s2 s
              · have hss2 : (s2.toList == s.toList) = false := hss
                have HN2 : Hid (hasB (sig.take (j + 1)) s = false) := by show _ = _; rw [HA.out, HNo.out, hss]; rfl
                go_wp2
                go_quiet (fail)
                go_wp2
                go_roundw
                case rel => exact ⟨j + 1, by omega, by go_num, HN2.out, below_drewN hby _⟩
                case measure => simp [intOf]; omega
              · have hss2 : (s2.toList == s.toList) = true := hss
                have HN2 : Hid (sigE sig = 36) := by show _ = _; rw [HF.out, HAll.out (by rw [HA.out, hss, Bool.or_true]), if_pos rfl]
                go_wp2
                go_quiet (fail)
                go_wp2
                go_ret
                exact ⟨ret1i HN2.out.symm, below_drewN HBy.out _⟩
            · have hjk2 : j = k := by omega
              have HN : Hid (sigGo sig 0 sig = sigGo sig (k + 1) (sig.drop (k + 1))) := by
                show _ = _
                rw [← HR.out, HF.out, ← hjk2, HNo.out, hjk2]
                rfl
              go_wp2
              go_roundw
              case rel => exact ⟨k + 1, by omega, by go_num, HN.out, HBy.out⟩
              case measure => simp [intOf]; omega
      · have hke : k = sig.length := by omega
        subst hke
        have HF : Hid (sigE sig = 0) := by show _ = _; rw [HR.out, HG.out, List.drop_length]; rfl
        go_wp2
        go_ret
        exact ⟨ret1i HF.out.symm, hbl⟩

end Go.Proofs.YtpnkplidhbbliaaDoor
