/- Texts of the proof, one behind the other. -/
import Derived.Test.YtdjmjhlbjcgoiaaGreatDoorOwn6
import Derived.Sort.QuietTacIn
import Derived.Sort.CutIn
import Derived.Deep.DeepAppendRoom
/- grow walked. -/
namespace Go.Proofs.YtdjmjhlbjcgoiaaGreatDoor
open Go.RowKit Go.Maps Go.Shelf

attribute [local go_sem] Oper.semAt_some

section
variable {F : Fence} {n : Nat} {P : Program} {w w' : World} {ops : Array Oper} {rest : List Oper} {o : Oper} {a : Act} {Q : Exit → Act → World → Prop}

theorem wpListIn_append_run (hg : o.guard = none) (s x : Operand) (t : TypeId) (hop : o.op = .call { callee := .builtin .append, args := #[s, x], argTypes := #[t, t] }) (v u : Value) {v' : Value} (hs : a.eval s = v) (hx : a.eval x = u)
    (hr : (Builtin.append_ #[t, t] o.type #[v, u]).run P w = .ok v' w') (h : wpListIn F n P ops Q rest (a.put o.dst v') w') : wpListIn F n P ops Q (o :: rest) a w := by
  refine wpListIn_plain hg fun K hK => ?_
  unfold Oper.wpIn
  refine ⟨?_, ?_⟩
  · simp [Oper.about, hop, resolve, Target.leads, Sem.run_pure]
  · rw [Oper.semAt_plain F _ _ (by rw [hop]; intro c hc; cases hc)]
    simp [execOp, hop, resolve, invoke, builtin, hs, hx, hr, Result.andThen]
    exact hK _ _ h

theorem operIn_append_run {K : Act → World → Prop} (s x : Operand) (t : TypeId) (hop : o.op = .call { callee := .builtin .append, args := #[s, x], argTypes := #[t, t] }) (v u : Value) {v' : Value} (hs : a.eval s = v) (hx : a.eval x = u)
    (hr : (Builtin.append_ #[t, t] o.type #[v, u]).run P w = .ok v' w') (h : K (a.put o.dst v') w') : o.wpIn F n P a w K Q := by
  unfold Oper.wpIn
  refine ⟨?_, ?_⟩
  · simp [Oper.about, hop, resolve, Target.leads, Sem.run_pure]
  · rw [Oper.semAt_plain F _ _ (by rw [hop]; intro c hc; cases hc)]
    simp [execOp, hop, resolve, invoke, builtin, hs, hx, hr, Result.andThen]
    exact h

theorem wpAnyIn_round {md : Region.Mode} (l : Nat) (hnd : (ops.all fun o => match o.op with | .defer _ => false | _ => true) = true) :
    ∀ (fuel : Nat) (listed : Array Bool) (a : Act) (w : World), wpAnyIn F n P md ops Q fuel listed a w → wpAnyIn (F.inRound l) n P md ops Q fuel listed a w := by
  intro fuel
  induction fuel with
  | zero => intro listed a w h; exact h
  | succ fuel ih =>
    intro listed a w h
    refine ⟨h.1, fun i hi => ?_⟩
    have h1 := wpOpIn_mono (fun a w h => ih (listed.setIfInBounds i true) a w h) (h.2 i hi)
    unfold wpOpIn at h1 ⊢
    cases ho : ops[i]? with
    | none => simp only [ho] at h1; exact h1
    | some o =>
      simp only [ho] at h1 ⊢
      have hno : ∀ c, o.op ≠ .defer c := fun c hc => by
        obtain ⟨hl, he⟩ := Array.getElem?_eq_some_iff.1 ho
        have h2 := Array.all_eq_true.1 hnd i hl
        rw [he, hc] at h2
        cases h2
      split
      · rename_i hw
        rw [if_pos hw] at h1
        unfold Oper.wpIn at h1 ⊢
        rw [Oper.semAt_plain _ _ _ hno] at h1 ⊢
        refine ⟨h1.1, ?_⟩
        have h3 := h1.2
        generalize (execOp a.eval o).run P w = r at h3 ⊢
        cases r with
        | ok x w' => cases x <;> exact h3
        | halt x w' => cases x <;> exact h3
      · rename_i hw
        rw [if_neg hw] at h1
        exact h1

end

theorem cell_newg' {w : World} {t : TypeId} {x : Value} {g : Nat} (hg : g = w.heap.size) (_h : x = x) : (w.alloc (.cells #[x] t)).cell? ⟨g, 0, none⟩ = some x := by
  subst hg
  rw [cell_of_row _ _ _ _ _ _ (heap_alloc_new _ _)]
  rfl

theorem frozen_newg {w : World} {t : TypeId} {x : Value} {g : Nat} (hg : g = w.heap.size) : (w.alloc (.cells #[x] t)).frozen? ⟨g, 0, none⟩ = false := by
  subst hg
  simp

theorem drop_rev {t : List Int} {k : Nat} (hk : k < t.length) : ∃ c, t.reverse[k]? = some c ∧ t.drop (t.length - (k + 1)) = c :: t.drop (t.length - k) ∧ t = t.take (t.length - (k + 1)) ++ c :: t.drop (t.length - k) := by
  have hj : t.length - (k + 1) < t.length := by omega
  refine ⟨t[t.length - (k + 1)], ?_, ?_, ?_⟩
  · rw [List.getElem?_reverse hk, show t.length - 1 - k = t.length - (k + 1) by omega]
    exact List.getElem?_eq_getElem hj
  · rw [List.drop_eq_getElem_cons hj, show t.length - (k + 1) + 1 = t.length - k by omega]
  · have h1 := List.take_append_drop (t.length - (k + 1)) t
    rw [List.drop_eq_getElem_cons hj, show t.length - (k + 1) + 1 = t.length - k by omega] at h1
    exact h1.symm

/-- A symbol's tree is made of its arguments' trees. -/
theorem GI.node {w W W9 w3 : World} {sv v gv cv : Value} {vals : List Value} {st : List Tr} {r bq : Nat} (h : GI w W sv v gv vals st) (hb9 : Below W.heap.size W W9) (hcv : W9.ownsRow W.heap.size 104 1 cv (vals.drop r).length (vals.drop r).reverse)
    (hbq : W9.heap.size ≤ bq) (h0 : w3.cell? ⟨bq, 0, none⟩ = some cv) (h1 : w3.cell? ⟨bq, 1, none⟩ = some (.int .i64 ((1 + sizes (st.drop r).reverse : Nat) : Int))) (hb3 : Below W9.heap.size W9 w3) :
    TV w3 (fun b => w.heap.size + 3 ≤ b ∧ b < w3.heap.size ∧ gv.ownBlock ≠ some b) (.iface 145 (.pointer (some ⟨bq, 0, none⟩))) (.app (st.drop r).reverse) := by
  have hsz := h.sz
  have hblt : ∀ b, gv.ownBlock = some b → b < W.heap.size := fun b hb => by
    rcases h.own.2 with ⟨h8, _⟩ | ⟨g8, c8, cur8, h8, _, hg8, _⟩
    · rw [h8] at hb; cases hb
    · rw [h8] at hb
      cases hb
      exact (Array.getElem?_eq_some_iff.1 hg8).1
  have hw39 := hb3.size
  have hw9 := hb9.size
  have hbqlt : bq < w3.heap.size := World.block_lt_of_cell? _ _ h0
  have hlen : (st.drop r).reverse.length = (vals.drop r).length := by rw [List.length_reverse, List.length_drop, List.length_drop, h.tv.len]
  have htl : TVl w3 (fun b => w.heap.size + 3 ≤ b ∧ b < w3.heap.size ∧ gv.ownBlock ≠ some b) (vals.drop r).reverse (st.drop r).reverse :=
    TVl.rev ((h.tv.take r).2.keep (fun b o x hA hx => (Kp.of_below (below_step hb9 hb3)).cell _ _ hx) (fun b hA => ⟨hA.1, by omega, hA.2.2⟩))
  have hcv3 := ownsRow_later hcv hb3
  unfold TV
  rcases hcv3.2 with ⟨h8, hn⟩ | ⟨g8, c8, cur8, h8, hgb, hg8, hc8, hm8, _⟩
  · refine ⟨bq, none, 0, rfl, ⟨by omega, hbqlt, fun e => by have := hblt bq e; omega⟩, by rw [h0, h8, hlen, hn], h1, by omega, by simp [maxLen], .inl (List.eq_nil_of_length_eq_zero (by omega))⟩
  · refine ⟨bq, some ⟨g8, 0, none⟩, c8, rfl, ⟨by omega, hbqlt, fun e => by have := hblt bq e; omega⟩, by rw [h0, h8, hlen], h1, by omega, hm8, .inr ⟨g8, 0, rfl, ⟨by omega, (Array.getElem?_eq_some_iff.1 hg8).1, fun e => by have := hblt g8 e; omega⟩, ?_⟩⟩
    refine TVs_of_TVl htl fun j u hj => ?_
    rw [h8] at hcv3
    have hjl := (List.getElem?_eq_some_iff.1 hj).1
    rw [List.length_reverse] at hjl
    rw [Nat.zero_add, World.ownsRow.cellAt hcv3 j (by omega)]
    exact hj

/-- The frame of a round. -/
def growA (sv v : Value) (B : Nat) (t : List Int) (k : Nat) : Act :=
  { tmps := #[sv, v, .pointer (some ⟨B, 0, none⟩), undef, .nilIface, .pointer (some ⟨B + 1, 0, none⟩), undef, .int .i64 (t.reverse[k]?.getD 0), undef, undef, v, .func (.func 155) #[] #[.pointer (some ⟨B + 1 + 1, 0, none⟩)], .int .i64 ((t.length - 1 - k : Nat) : Int), .int .i64 (t.reverse[k]?.getD 0), undef, undef, undef, undef, undef, undef, undef, undef, undef, undef, undef, undef, undef, undef, undef, undef, undef, undef, undef, undef, undef, undef, undef, undef, undef, undef, undef, undef, undef, undef, undef], defers := [] }

set_option maxRecDepth 100000 in
set_option maxHeartbeats 1600000 in
theorem grow_any (sv v : Value) (sig : List Sy) (t : List Int) (w : World) (hs : Sg w sv sig) (h : Is w v t) (ha : ArOk sig) (hr : rowE sig t = 0) (hb : t.length * 16 ≤ 140737488351232) :
    Calls Tryz.prog 60 #[sv, v] w fun e w' => ∃ u T A, e = .returned u ∧ growR sig t = [T] ∧ TV w' A u T ∧ (∀ b, A b → w.heap.size ≤ b ∧ b < w'.heap.size) ∧ Below w.heap.size w w' := by
  obtain ⟨so, sc, rfl, hso, hsc, _⟩ := Row.flat hs
  obtain ⟨ao, cap, rfl, hao, hca, q0⟩ := Row.flat h
  unfold maxLen at hsc hca
  have htl : 0 < t.length := by
    cases t with
    | nil => simp [rowE, firstT] at hr
    | cons c t => simp
  obtain ⟨b, off, c0, rfl, _⟩ := h.at htl
  have hread : ∀ (j : Nat) (c : Int), t[j]? = some c → w.cell? ⟨b, off + j, none⟩ = some (.int .i64 c) := fun j c hj => by
    obtain ⟨b', off', c', e, h1, h2, _⟩ := h.at (List.getElem?_eq_some_iff.1 hj).1
    simp only [Option.some.injEq, Addr.mk.injEq, and_true] at e
    obtain ⟨rfl, rfl⟩ := e
    rw [hj] at h1
    cases h1
    exact h2
  have HS := hid hs
  have HRd := hid hread
  have HA := hid ha
  have HR := hid hr
  clear hs h ha hr q0 hread
  refine (callsIn_wide (n := 3)).1 ?_
  refine callsIn_of_wp_marks Tryz.func60 rfl trivial ?_ rfl
  simp only [Tryz.ntmps60, List.size_toArray, List.length_cons, List.length_nil, Nat.reduceAdd, Nat.reduceSub, Array.replicate_succ, Array.replicate_zero, List.push_toArray, List.append_toArray, List.nil_append, List.cons_append]
  gi_wp2_with fail
  refine ⟨trivial, ?_⟩
  refine (back_any _ _ _ _ Fence.wide _ trivial rfl).mono ?_
  rintro e w' ⟨rfl, rfl⟩
  gi_wp2_with fail
  have hB0 : Below w.heap.size w (((w.alloc (.cells #[.slice so sig.length sc] 22)).alloc (.cells #[.slice none 0 0] 147)).alloc (.cells #[.slice (some ⟨b, off, none⟩) t.length cap] 30)) := below_step (below_step (below_alloc _) (below_alloc _)) (below_alloc _)
  refine range_rounds rfl (by omega) (gf := 155) (lb := #[.pointer (some ⟨w.heap.size + 2, 0, none⟩)]) (by simp [go_sem]) trivial (enters_of Tryz.func155 (by kernel_rfl) rfl)
    (backA t) t.length (fun _ => rfl) (BackR (w.heap.size + 2) b off cap t) (fun k W => ∃ gv vals, GI w W (.slice so sig.length sc) (.slice (some ⟨b, off, none⟩) t.length cap) gv vals (growR sig (t.drop (t.length - k))))
    ?_ ?_ ?_ ?_ (growA (.slice so sig.length sc) (.slice (some ⟨b, off, none⟩) t.length cap) w.heap.size t) ?assign ?body ?done
  · rintro k W l o o' hl ho hc ⟨gv, vals, hg⟩
    exact ⟨gv, vals, hg.put (by simpa using hl) ho hc⟩
  · intro r
    refine ⟨.slice none 0 0, [], ?_⟩
    rw [show t.length - 0 = t.length by omega, List.drop_length]
    have hst0 : GI w (((w.alloc (.cells #[.slice so sig.length sc] 22)).alloc (.cells #[.slice none 0 0] 147)).alloc (.cells #[.slice (some ⟨b, off, none⟩) t.length cap] 30)) (.slice so sig.length sc) (.slice (some ⟨b, off, none⟩) t.length cap) (.slice none 0 0) [] [] :=
      ⟨(Kp.of_below (below_alloc _)).cell _ _ (cell_newg' (by simp) rfl), by rw [frozen_same (Below.heap_alloc _ _ _ (by simp))]; exact frozen_newg (by simp), (Kp.of_below (below_alloc _)).cell _ _ ((Kp.of_below (below_alloc _)).cell _ _ (cell_newg' rfl rfl)), cell_newg' (by simp) rfl, World.ownsRow_nil _ _ _ _, trivial, hB0, by simp⟩
    exact hst0.later (below_step (below_alloc _) (below_alloc _))
  · rintro k W ⟨gv, vals, hg⟩
    exact ⟨hg.bck, fun j c hj => (hg.bel.cell (p := ⟨b, off + j, none⟩) (World.block_lt_of_cell? _ _ (HRd.out j c hj))).trans (HRd.out j c hj)⟩
  · intro l J W hR hY h0
    exact back_rounds Fence.wide _ trivial rfl (by omega) (w.heap.size + 2) b off cap t (by omega) hao (by omega) l J W hR hY h0
  case assign =>
    intro l k W K hK
    unfold backA
    gi_wp2
    exact hK
  case body =>
    rintro l k W hk ⟨gv, vals, hg⟩
    obtain ⟨c, hc1, hc2, hc3⟩ := drop_rev hk
    have hst : growR sig (t.drop (t.length - (k + 1))) = growStep sig (growR sig (t.drop (t.length - k))) c := by rw [hc2]; rfl
    have hvl : vals.length = (growR sig (t.drop (t.length - k))).length := hg.tv.len
    have hsl : (growR sig (t.drop (t.length - k))).length ≤ k := by
      have h1 := len_sizes (growR sig (t.drop (t.length - k)))
      rw [growR_sizes, List.length_drop] at h1
      omega
    have HG := hid hg
    have hbx := hg.box
    have hfz := hg.frz
    have hsb := hg.sigb
    have hWs := hg.sz
    obtain ⟨go, gc, hgv, hgc1, hgc2⟩ : ∃ ao cap, gv = .slice ao vals.length cap ∧ vals.length ≤ cap ∧ cap ≤ 9223372036854775807 := by
      rcases hg.own.2 with ⟨h8, h9⟩ | ⟨g8, c8, cur8, h8, _, _, h9, h7, _⟩
      · exact ⟨none, 0, by rw [h8, h9], by omega, by omega⟩
      · exact ⟨_, c8, h8, h9, by unfold maxLen at h7; omega⟩
    have HGv := hid hgv
    rw [hgv] at hbx
    unfold growA
    rw [hc1, Option.getD_some]
    have HSt := hid hst
    have HVl := hid hvl
    have hvk : vals.length ≤ k := by omega
    have HC3 := hid hc3
    clear hg hgv hst hc1 hc2 hc3 hvl hsl
    by_cases hcv : c < 0
    · obtain ⟨g, cp, W2, hr2, hb2, hf2, hg2, hk2⟩ := HG.out.push 147 (u := .iface 154 (.agg #[])) (T := .var) (k := vals.length) HGv.out (Nat.le_refl _) (Below.refl _ _) (by unfold TV; rfl) (by omega)
      have HR2 := hid hr2
      have HG2 := hid hg2
      have HK2 := hid hk2
      have HSt2 : Hid (growR sig (t.drop (t.length - (k + 1))) = (growR sig (t.drop (t.length - k))).take vals.length ++ [.var]) := by
        show _ = _
        rw [HSt.out, growStep, if_pos hcv, HVl.out, List.take_length]
      clear hr2 hg2 hk2
      gi_wp2_with (gi_at_builtin; refine wpListIn_append_run rfl _ _ _ rfl _ _ rfl rfl HR2.out ?_)
      exact ⟨HK2.out, _, _, by rw [HSt2.out]; exact HG2.out⟩
    · obtain ⟨cn, rfl⟩ : ∃ cn : Nat, c = cn := ⟨c.toNat, by omega⟩
      obtain ⟨hcl, har⟩ := grow_code HA.out _ _ _ 1 0 (by omega) (by rw [← HC3.out, row_first.1 HR.out]; simp) hcv
      rw [Int.toNat_natCast] at hcl
      obtain ⟨sg, soff, nm, ar, rfl, hs1, hs2, hs3, hs4, hs5, hs6⟩ := HS.out.at hcl
      have harI := HA.out _ (List.mem_of_getElem? hs1)
      simp only at harI
      have hArN : arN sig (cn : Int) = ar.toNat := by unfold arN; rw [Int.toNat_natCast, hs1]
      obtain ⟨r, hrr⟩ : ∃ r : Nat, r = vals.length - ar.toNat := ⟨_, rfl⟩
      have hrl : r ≤ vals.length := by omega
      have hrI : (vals.length : Int) - ar = (r : Int) := by rw [← HVl.out] at har; omega
      have hwr : IntKind.i64.wrap ((vals.length : Int) - ar) = (r : Int) := by rw [hrI]; exact IntWalk.i64_in _ ⟨by omega, by omega⟩
      have hs3W := (HG.out.bel.cell (p := ⟨sg, soff + cn * 2 + 1, none⟩) (World.block_lt_of_cell? _ _ hs3)).trans hs3
      have HSt2 : Hid (growR sig (t.drop (t.length - (k + 1))) = (growR sig (t.drop (t.length - k))).take r ++ [.app ((growR sig (t.drop (t.length - k))).drop r).reverse]) := by
        show _ = _
        rw [HSt.out, growStep, if_neg hcv, hArN, ← HVl.out, ← hrr]
      have hwr2 : IntKind.i64.wrap (r : Int) = (r : Int) := IntWalk.i64_in _ ⟨by omega, by omega⟩
      have mixed : Tryz.prog.follows .mixedOrders = true := by kernel_rfl
      have HIf := hid HG.out.tv.ifv
      have HHar := hid har
      clear hs1 hs2 hs3 hrr har
      gi_upto_region 6 with fail
      gi_cut [8] from 21 (fun x wx => x = .int .i64 (r : Int) ∧ wx = W.drew)
      case first =>
        gi_region_with_o (fail)
        all_goals (gi_wp2; gi_meet; exact ⟨rfl, rfl⟩)
      case rest =>
        obtain ⟨rfl, hwc⟩ := hcut
        have HGq := hid (HG.out.later (drawn_below1 W))
        have HKq : Hid (KeepsFrom (w.heap.size + 3) W W.drew) := KeepsFrom.of_grownBy (grown_of_below (drawn_below1 W) none) (fun j hj => by cases hj)
        have hbq := HGq.out.box
        rw [HGv.out] at hbq
        obtain ⟨Wq, hWq⟩ : ∃ X, X = W.drew := ⟨_, rfl⟩
        rw [← hWq] at HGq HKq hbq hwc
        subst hwc
        clear hWq hbx hs3W hsb hfz
        cases go with
        | none =>
          obtain ⟨hv0, hg0⟩ : vals.length = 0 ∧ gc = 0 := by
            rcases HGq.out.own.2 with ⟨h8, h9⟩ | ⟨g8, c8, cur8, h8, _⟩
            · rw [HGv.out] at h8
              simp only [Value.slice.injEq] at h8
              exact ⟨h9, h8.2.2⟩
            · rw [HGv.out] at h8; cases h8
          obtain rfl : r = 0 := by omega
          subst hg0
          obtain rfl := List.eq_nil_of_length_eq_zero hv0
          have HSl : Hid (RdV wc (.slice none 0 0) (([] : List Value).drop 0)) := .inl ⟨rfl, rfl⟩
          gi_wp2_with fail
          refine ⟨trivial, ?_⟩
          refine (CallsIn.inRound l (callsIn_wide.2 (cloneT_any _ (([] : List Value).drop 0) _ HSl.out (fun u hu => (HIf.out u (List.mem_of_mem_drop hu)).one) (by rw [List.length_drop]; omega)))).mono ?_
          rintro e w1 ⟨cv, rfl, hoc, hbc⟩
          have HOc := hid hoc
          have HB1 := hid hbc
          clear hoc hbc
          gi_wp2_with fail
          refine ⟨trivial, ?_⟩
          refine (CallsIn.inRound l (callsIn_wide.2 (reverseT_any cv (([] : List Value).drop 0) _ w1 HOc.out (fun u hu => HIf.out u (List.mem_of_mem_drop hu))))).mono ?_
          rintro e w2 ⟨rfl, hor, hgr2⟩
          have HOr := hid hor
          have HB2 : Hid (Below wc.heap.size wc w2) := HB1.out.grown hgr2 HB1.out.size (fun j hj => own_blk HOc.out hj)
          clear hor hgr2
          have HB9 := hid (below_step HB2.out (drawn_below1 w2))
          have HG9 := hid (HGq.out.later HB9.out)
          have hbx9 := HG9.out.box
          rw [HGv.out] at hbx9
          have HOr9 := hid (ownsRow_later HOr.out (drawn_below1 w2))
          have hszs : sizes ((growR sig (t.drop (t.length - k))).drop 0).reverse ≤ 4611686018427387904 := by
            have h1 := sizes_app ((growR sig (t.drop (t.length - k))).take 0) ((growR sig (t.drop (t.length - k))).drop 0)
            rw [List.take_append_drop, growR_sizes, List.length_drop] at h1
            rw [sizes_rev]
            omega
          have HAp : Hid (Calls Tryz.prog 113 #[cv] w2.drew fun e w' => ∃ bq, e = .returned (.iface 145 (.pointer (some ⟨bq, 0, none⟩))) ∧ w2.drew.heap.size ≤ bq ∧ w'.cell? ⟨bq, 0, none⟩ = some cv ∧ w'.cell? ⟨bq, 1, none⟩ = some (.int .i64 ((1 + sizes ((growR sig (t.drop (t.length - k))).drop 0).reverse : Nat) : Int)) ∧ Below w2.drew.heap.size w2.drew w') := by
            have hrev : (([] : List Value).drop 0).reverse.length = (([] : List Value).drop 0).length := List.length_reverse
            refine applyT_any cv (([] : List Value).drop 0).reverse ((growR sig (t.drop (t.length - k))).drop 0).reverse (fun b => w.heap.size + 3 ≤ b ∧ b < w2.drew.heap.size ∧ gv.ownBlock ≠ some b) w2.drew (own_rdv (by rw [hrev]; exact HOr9.out)) (TVl.rev (HG9.out.tv.take 0).2) (fun b hb => hb.2.1) hszs
          have HPush : Hid (∀ (w3 : World) (bq : Nat), w2.drew.heap.size ≤ bq → w3.cell? ⟨bq, 0, none⟩ = some cv → w3.cell? ⟨bq, 1, none⟩ = some (.int .i64 ((1 + sizes ((growR sig (t.drop (t.length - k))).drop 0).reverse : Nat) : Int)) → Below w2.drew.heap.size w2.drew w3 →
              w3.cell? ⟨w.heap.size + 1, 0, none⟩ = some (.slice none 0 0) ∧ ∃ g cp W2, (Builtin.append_ #[147, 147] 147 #[.slice none 0 0, .slice (some ⟨w3.heap.size, 0, none⟩) 1 1]).run Tryz.prog (w3.alloc (.cells #[.iface 145 (.pointer (some ⟨bq, 0, none⟩))] 104)) = .ok (.slice (some ⟨g, 0, none⟩) (0 + 1) cp) W2 ∧
                W2.cell? ⟨w.heap.size + 1, 0, none⟩ = some gv ∧ W2.frozen? ⟨w.heap.size + 1, 0, none⟩ = false ∧ KeepsFrom (w.heap.size + 3) W (W2.setCell ⟨w.heap.size + 1, 0, none⟩ (.slice (some ⟨g, 0, none⟩) (0 + 1) cp)) ∧
                ∃ gv' vals', GI w (W2.setCell ⟨w.heap.size + 1, 0, none⟩ (.slice (some ⟨g, 0, none⟩) (0 + 1) cp)) (.slice (some ⟨sg, soff, none⟩) sig.length sc) (.slice (some ⟨b, off, none⟩) t.length cap) gv' vals' (growR sig (t.drop (t.length - (k + 1))))) := fun w3 bq p1 p2 p3 p4 => by
            have hbx3 := (Kp.of_below p4).cell _ _ hbx9
            have hnode := HGq.out.node HB9.out (r := 0) HOr9.out p1 p2 p3 p4
            obtain ⟨g, cp, W2, hr2, hb2, hf2, hg2, hk2⟩ := HGq.out.push 147 HGv.out hrl (below_step HB9.out p4) hnode (by omega)
            exact ⟨hbx3, g, cp, W2, hr2, hb2, hf2, HKq.out.trans hk2, _, _, by rw [HSt2.out]; exact hg2⟩
          have hrc : 0 ≤ 0 := by omega
          clear HOr HOc HB1 HB2
          gi_upto_region 9 with fail
          refine wpIn_region_any mixed ?_
          change wpAnyIn _ _ _ _ _ _ _ _ _ (World.drew _)
          refine wpAnyIn_round (F := Fence.wide) l (by kernel_rfl) _ _ _ _ ?_
          refine wpAnyIn_take (i := 1) (v := ?_) rfl rfl (by kernel_rfl) (by kernel_rfl) (by kernel_rfl) (fun _ _ _ h => h) ⟨Or.inl ⟨by rfl, ?_⟩, fun _ => rfl⟩ ?_
          rotate_left
          · intro wx
            go_simp
            try with_reducible rfl
          refine wpAnyIn_take (i := 3) (v := ?_) rfl rfl (by kernel_rfl) (by kernel_rfl) (by kernel_rfl) (fun _ _ _ h => h) ⟨Or.inl ⟨by rfl, ?_⟩, fun _ => rfl⟩ ?_
          rotate_left
          · intro wx
            go_simp
            try with_reducible rfl
          refine wpAnyIn_ready (rs := [0, 4]) (by kernel_rfl) (by simp) ?_
          refine AllReadyIn.cons rfl (fun K hK => ?_) ?_
          · go_simp
            refine hK _ _ ?_
            clear hK K
            refine wpAnyIn_take (i := 2) (v := .slice none 0 0) rfl rfl (by kernel_rfl) (by kernel_rfl) (by kernel_rfl) (fun _ _ _ h => h) ⟨Or.inl ⟨by rfl, ?_⟩, fun _ => rfl⟩ ?_
            · intro wx
              go_simp
            refine wpAnyIn_ready (rs := [4]) (by kernel_rfl) (by simp) ?_
            refine AllReadyIn.cons rfl (fun K hK => ?_) ?_
            · go_simp
              refine ⟨trivial, ?_⟩
              refine (callsIn_wide.2 HAp.out).mono ?_
              rintro e w3 ⟨bq, rfl, p1, p2, p3, p4⟩
              obtain ⟨q1, g, cp, W2, hr2, hb2, hf2, hk2, gv', vals', hg2⟩ := HPush.out w3 bq p1 p2 p3 p4
              have q2 : (w3.alloc (.cells #[.iface 145 (.pointer (some ⟨bq, 0, none⟩))] 104)).cell? ⟨w.heap.size + 1, 0, none⟩ = some (.slice none 0 0) := (Kp.of_below (below_alloc _)).cell _ _ q1
              have HR2 := hid hr2
              have HK2 := hid hk2
              have HG2 := hid hg2
              clear hr2 hk2 hg2 p2 p3 p4
              refine hK _ _ ?_
              clear hK K
              refine wpAnyIn_ready (rs := [5]) (by kernel_rfl) (by simp) ?_
              refine AllReadyIn.cons rfl (fun K hK => ?_) ?_
              · go_simp
                refine hK _ _ ?_
                clear hK K
                refine wpAnyIn_ready (rs := [6]) (by kernel_rfl) (by simp) ?_
                refine AllReadyIn.cons rfl (fun K hK => ?_) ?_
                · rw [if_pos (by rfl)]
                  refine operIn_append_run _ _ _ rfl _ _ rfl rfl HR2.out ?_
                  refine hK _ _ ?_
                  clear hK K
                  refine wpAnyIn_ready (rs := [7]) (by kernel_rfl) (by simp) ?_
                  refine AllReadyIn.cons rfl (fun K hK => ?_) ?_
                  · go_simp
                    refine hK _ _ ?_
                    clear hK K
                    refine wpAnyIn_done (by kernel_rfl) ?_ _
                    gi_wp2_with fail
                    exact ⟨HK2.out, _, _, HG2.out⟩
                  exact AllReadyIn.nil
                exact AllReadyIn.nil
              exact AllReadyIn.nil
            exact AllReadyIn.nil
          refine AllReadyIn.cons rfl (fun K hK => ?_) ?_
          · go_simp
            refine ⟨trivial, ?_⟩
            refine (callsIn_wide.2 HAp.out).mono ?_
            rintro e w3 ⟨bq, rfl, p1, p2, p3, p4⟩
            obtain ⟨q1, g, cp, W2, hr2, hb2, hf2, hk2, gv', vals', hg2⟩ := HPush.out w3 bq p1 p2 p3 p4
            have q2 : (w3.alloc (.cells #[.iface 145 (.pointer (some ⟨bq, 0, none⟩))] 104)).cell? ⟨w.heap.size + 1, 0, none⟩ = some (.slice none 0 0) := (Kp.of_below (below_alloc _)).cell _ _ q1
            have HR2 := hid hr2
            have HK2 := hid hk2
            have HG2 := hid hg2
            clear hr2 hk2 hg2 p2 p3 p4
            refine hK _ _ ?_
            clear hK K
            refine wpAnyIn_ready (rs := [0, 5]) (by kernel_rfl) (by simp) ?_
            refine AllReadyIn.cons rfl (fun K hK => ?_) ?_
            · go_simp
              refine hK _ _ ?_
              clear hK K
              refine wpAnyIn_take (i := 2) (v := .slice none 0 0) rfl rfl (by kernel_rfl) (by kernel_rfl) (by kernel_rfl) (fun _ _ _ h => h) ⟨Or.inl ⟨by rfl, ?_⟩, fun _ => rfl⟩ ?_
              · intro wx
                go_simp
              refine wpAnyIn_ready (rs := [5]) (by kernel_rfl) (by simp) ?_
              refine AllReadyIn.cons rfl (fun K hK => ?_) ?_
              · go_simp
                refine hK _ _ ?_
                clear hK K
                refine wpAnyIn_ready (rs := [6]) (by kernel_rfl) (by simp) ?_
                refine AllReadyIn.cons rfl (fun K hK => ?_) ?_
                · rw [if_pos (by rfl)]
                  refine operIn_append_run _ _ _ rfl _ _ rfl rfl HR2.out ?_
                  refine hK _ _ ?_
                  clear hK K
                  refine wpAnyIn_ready (rs := [7]) (by kernel_rfl) (by simp) ?_
                  refine AllReadyIn.cons rfl (fun K hK => ?_) ?_
                  · go_simp
                    refine hK _ _ ?_
                    clear hK K
                    refine wpAnyIn_done (by kernel_rfl) ?_ _
                    gi_wp2_with fail
                    exact ⟨HK2.out, _, _, HG2.out⟩
                  exact AllReadyIn.nil
                exact AllReadyIn.nil
              exact AllReadyIn.nil
            refine AllReadyIn.cons rfl (fun K hK => ?_) ?_
            · go_simp
              refine hK _ _ ?_
              clear hK K
              refine wpAnyIn_ready (rs := [0]) (by kernel_rfl) (by simp) ?_
              refine AllReadyIn.cons rfl (fun K hK => ?_) ?_
              · go_simp
                refine hK _ _ ?_
                clear hK K
                refine wpAnyIn_take (i := 2) (v := .slice none 0 0) rfl rfl (by kernel_rfl) (by kernel_rfl) (by kernel_rfl) (fun _ _ _ h => h) ⟨Or.inl ⟨by rfl, ?_⟩, fun _ => rfl⟩ ?_
                · intro wx
                  go_simp
                refine wpAnyIn_ready (rs := [6]) (by kernel_rfl) (by simp) ?_
                refine AllReadyIn.cons rfl (fun K hK => ?_) ?_
                · rw [if_pos (by rfl)]
                  refine operIn_append_run _ _ _ rfl _ _ rfl rfl HR2.out ?_
                  refine hK _ _ ?_
                  clear hK K
                  refine wpAnyIn_ready (rs := [7]) (by kernel_rfl) (by simp) ?_
                  refine AllReadyIn.cons rfl (fun K hK => ?_) ?_
                  · go_simp
                    refine hK _ _ ?_
                    clear hK K
                    refine wpAnyIn_done (by kernel_rfl) ?_ _
                    gi_wp2_with fail
                    exact ⟨HK2.out, _, _, HG2.out⟩
                  exact AllReadyIn.nil
                exact AllReadyIn.nil
              exact AllReadyIn.nil
            exact AllReadyIn.nil
          exact AllReadyIn.nil
        | some ad =>
          obtain ⟨gb, hgb⟩ : ∃ gb, ad = ⟨gb, 0, none⟩ := by
            rcases HGq.out.own.2 with ⟨h8, h9⟩ | ⟨g8, c8, cur8, h8, _⟩
            · rw [HGv.out] at h8; cases h8
            · rw [HGv.out] at h8
              simp only [Value.slice.injEq, Option.some.injEq] at h8
              exact ⟨g8, h8.1⟩
          subst hgb
          by_cases hgr : gc = r
          · subst hgr
            have HSl : Hid (RdV wc (.slice (some ⟨gb, 0, none⟩) 0 0) (vals.drop gc)) := by
              refine .inr ⟨gb, 0, 0, by rw [List.drop_eq_nil_of_le hgc1]; rfl, fun j u hj => ?_⟩
              rw [List.drop_eq_nil_of_le hgc1] at hj
              cases hj
            gi_wp2_with fail
            refine ⟨trivial, ?_⟩
            refine (CallsIn.inRound l (callsIn_wide.2 (cloneT_any _ (vals.drop gc) _ HSl.out (fun u hu => (HIf.out u (List.mem_of_mem_drop hu)).one) (by rw [List.length_drop]; omega)))).mono ?_
            rintro e w1 ⟨cv, rfl, hoc, hbc⟩
            have HOc := hid hoc
            have HB1 := hid hbc
            clear hoc hbc
            gi_wp2_with fail
            refine ⟨trivial, ?_⟩
            refine (CallsIn.inRound l (callsIn_wide.2 (reverseT_any cv (vals.drop gc) _ w1 HOc.out (fun u hu => HIf.out u (List.mem_of_mem_drop hu))))).mono ?_
            rintro e w2 ⟨rfl, hor, hgr2⟩
            have HOr := hid hor
            have HB2 : Hid (Below wc.heap.size wc w2) := HB1.out.grown hgr2 HB1.out.size (fun j hj => own_blk HOc.out hj)
            clear hor hgr2
            have HB9 := hid (below_step HB2.out (drawn_below1 w2))
            have HG9 := hid (HGq.out.later HB9.out)
            have hbx9 := HG9.out.box
            rw [HGv.out] at hbx9
            have HOr9 := hid (ownsRow_later HOr.out (drawn_below1 w2))
            have hszs : sizes ((growR sig (t.drop (t.length - k))).drop gc).reverse ≤ 4611686018427387904 := by
              have h1 := sizes_app ((growR sig (t.drop (t.length - k))).take gc) ((growR sig (t.drop (t.length - k))).drop gc)
              rw [List.take_append_drop, growR_sizes, List.length_drop] at h1
              rw [sizes_rev]
              omega
            have HAp : Hid (Calls Tryz.prog 113 #[cv] w2.drew fun e w' => ∃ bq, e = .returned (.iface 145 (.pointer (some ⟨bq, 0, none⟩))) ∧ w2.drew.heap.size ≤ bq ∧ w'.cell? ⟨bq, 0, none⟩ = some cv ∧ w'.cell? ⟨bq, 1, none⟩ = some (.int .i64 ((1 + sizes ((growR sig (t.drop (t.length - k))).drop gc).reverse : Nat) : Int)) ∧ Below w2.drew.heap.size w2.drew w') := by
              have hrev : (vals.drop gc).reverse.length = (vals.drop gc).length := List.length_reverse
              refine applyT_any cv (vals.drop gc).reverse ((growR sig (t.drop (t.length - k))).drop gc).reverse (fun b => w.heap.size + 3 ≤ b ∧ b < w2.drew.heap.size ∧ gv.ownBlock ≠ some b) w2.drew (own_rdv (by rw [hrev]; exact HOr9.out)) (TVl.rev (HG9.out.tv.take gc).2) (fun b hb => hb.2.1) hszs
            have HPush : Hid (∀ (w3 : World) (bq : Nat), w2.drew.heap.size ≤ bq → w3.cell? ⟨bq, 0, none⟩ = some cv → w3.cell? ⟨bq, 1, none⟩ = some (.int .i64 ((1 + sizes ((growR sig (t.drop (t.length - k))).drop gc).reverse : Nat) : Int)) → Below w2.drew.heap.size w2.drew w3 →
                w3.cell? ⟨w.heap.size + 1, 0, none⟩ = some (.slice (some ⟨gb, 0, none⟩) vals.length gc) ∧ ∃ g cp W2, (Builtin.append_ #[147, 147] 147 #[.slice (some ⟨gb, 0, none⟩) gc gc, .slice (some ⟨w3.heap.size, 0, none⟩) 1 1]).run Tryz.prog (w3.alloc (.cells #[.iface 145 (.pointer (some ⟨bq, 0, none⟩))] 104)) = .ok (.slice (some ⟨g, 0, none⟩) (gc + 1) cp) W2 ∧
                  W2.cell? ⟨w.heap.size + 1, 0, none⟩ = some gv ∧ W2.frozen? ⟨w.heap.size + 1, 0, none⟩ = false ∧ KeepsFrom (w.heap.size + 3) W (W2.setCell ⟨w.heap.size + 1, 0, none⟩ (.slice (some ⟨g, 0, none⟩) (gc + 1) cp)) ∧
                  ∃ gv' vals', GI w (W2.setCell ⟨w.heap.size + 1, 0, none⟩ (.slice (some ⟨g, 0, none⟩) (gc + 1) cp)) (.slice (some ⟨sg, soff, none⟩) sig.length sc) (.slice (some ⟨b, off, none⟩) t.length cap) gv' vals' (growR sig (t.drop (t.length - (k + 1))))) := fun w3 bq p1 p2 p3 p4 => by
              have hbx3 := (Kp.of_below p4).cell _ _ hbx9
              have hnode := HGq.out.node HB9.out (r := gc) HOr9.out p1 p2 p3 p4
              obtain ⟨g, cp, W2, hr2, hb2, hf2, hg2, hk2⟩ := HGq.out.push 147 HGv.out hrl (below_step HB9.out p4) hnode (by omega)
              exact ⟨hbx3, g, cp, W2, hr2, hb2, hf2, HKq.out.trans hk2, _, _, by rw [HSt2.out]; exact hg2⟩
            have hrc : gc ≤ gc := by omega
            clear HOr HOc HB1 HB2
            gi_upto_region 9 with fail
            refine wpIn_region_any mixed ?_
            change wpAnyIn _ _ _ _ _ _ _ _ _ (World.drew _)
            refine wpAnyIn_round (F := Fence.wide) l (by kernel_rfl) _ _ _ _ ?_
            refine wpAnyIn_take (i := 1) (v := ?_) rfl rfl (by kernel_rfl) (by kernel_rfl) (by kernel_rfl) (fun _ _ _ h => h) ⟨Or.inl ⟨by rfl, ?_⟩, fun _ => rfl⟩ ?_
            rotate_left
            · intro wx
              go_simp
              try with_reducible rfl
            refine wpAnyIn_take (i := 3) (v := ?_) rfl rfl (by kernel_rfl) (by kernel_rfl) (by kernel_rfl) (fun _ _ _ h => h) ⟨Or.inl ⟨by rfl, ?_⟩, fun _ => rfl⟩ ?_
            rotate_left
            · intro wx
              go_simp
              try with_reducible rfl
            refine wpAnyIn_ready (rs := [0, 4]) (by kernel_rfl) (by simp) ?_
            refine AllReadyIn.cons rfl (fun K hK => ?_) ?_
            · go_simp
              refine hK _ _ ?_
              clear hK K
              refine wpAnyIn_take (i := 2) (v := .slice (some ⟨gb, 0, none⟩) gc gc) rfl rfl (by kernel_rfl) (by kernel_rfl) (by kernel_rfl) (fun _ _ _ h => h) ⟨Or.inl ⟨by rfl, ?_⟩, fun _ => rfl⟩ ?_
              · intro wx
                go_simp
              refine wpAnyIn_ready (rs := [4]) (by kernel_rfl) (by simp) ?_
              refine AllReadyIn.cons rfl (fun K hK => ?_) ?_
              · go_simp
                refine ⟨trivial, ?_⟩
                refine (callsIn_wide.2 HAp.out).mono ?_
                rintro e w3 ⟨bq, rfl, p1, p2, p3, p4⟩
                obtain ⟨q1, g, cp, W2, hr2, hb2, hf2, hk2, gv', vals', hg2⟩ := HPush.out w3 bq p1 p2 p3 p4
                have q2 : (w3.alloc (.cells #[.iface 145 (.pointer (some ⟨bq, 0, none⟩))] 104)).cell? ⟨w.heap.size + 1, 0, none⟩ = some (.slice (some ⟨gb, 0, none⟩) vals.length gc) := (Kp.of_below (below_alloc _)).cell _ _ q1
                have HR2 := hid hr2
                have HK2 := hid hk2
                have HG2 := hid hg2
                clear hr2 hk2 hg2 p2 p3 p4
                refine hK _ _ ?_
                clear hK K
                refine wpAnyIn_ready (rs := [5]) (by kernel_rfl) (by simp) ?_
                refine AllReadyIn.cons rfl (fun K hK => ?_) ?_
                · go_simp
                  refine hK _ _ ?_
                  clear hK K
                  refine wpAnyIn_ready (rs := [6]) (by kernel_rfl) (by simp) ?_
                  refine AllReadyIn.cons rfl (fun K hK => ?_) ?_
                  · rw [if_pos (by rfl)]
                    refine operIn_append_run _ _ _ rfl _ _ rfl rfl HR2.out ?_
                    refine hK _ _ ?_
                    clear hK K
                    refine wpAnyIn_ready (rs := [7]) (by kernel_rfl) (by simp) ?_
                    refine AllReadyIn.cons rfl (fun K hK => ?_) ?_
                    · go_simp
                      refine hK _ _ ?_
                      clear hK K
                      refine wpAnyIn_done (by kernel_rfl) ?_ _
                      gi_wp2_with fail
                      exact ⟨HK2.out, _, _, HG2.out⟩
                    exact AllReadyIn.nil
                  exact AllReadyIn.nil
                exact AllReadyIn.nil
              exact AllReadyIn.nil
            refine AllReadyIn.cons rfl (fun K hK => ?_) ?_
            · go_simp
              refine ⟨trivial, ?_⟩
              refine (callsIn_wide.2 HAp.out).mono ?_
              rintro e w3 ⟨bq, rfl, p1, p2, p3, p4⟩
              obtain ⟨q1, g, cp, W2, hr2, hb2, hf2, hk2, gv', vals', hg2⟩ := HPush.out w3 bq p1 p2 p3 p4
              have q2 : (w3.alloc (.cells #[.iface 145 (.pointer (some ⟨bq, 0, none⟩))] 104)).cell? ⟨w.heap.size + 1, 0, none⟩ = some (.slice (some ⟨gb, 0, none⟩) vals.length gc) := (Kp.of_below (below_alloc _)).cell _ _ q1
              have HR2 := hid hr2
              have HK2 := hid hk2
              have HG2 := hid hg2
              clear hr2 hk2 hg2 p2 p3 p4
              refine hK _ _ ?_
              clear hK K
              refine wpAnyIn_ready (rs := [0, 5]) (by kernel_rfl) (by simp) ?_
              refine AllReadyIn.cons rfl (fun K hK => ?_) ?_
              · go_simp
                refine hK _ _ ?_
                clear hK K
                refine wpAnyIn_take (i := 2) (v := .slice (some ⟨gb, 0, none⟩) gc gc) rfl rfl (by kernel_rfl) (by kernel_rfl) (by kernel_rfl) (fun _ _ _ h => h) ⟨Or.inl ⟨by rfl, ?_⟩, fun _ => rfl⟩ ?_
                · intro wx
                  go_simp
                refine wpAnyIn_ready (rs := [5]) (by kernel_rfl) (by simp) ?_
                refine AllReadyIn.cons rfl (fun K hK => ?_) ?_
                · go_simp
                  refine hK _ _ ?_
                  clear hK K
                  refine wpAnyIn_ready (rs := [6]) (by kernel_rfl) (by simp) ?_
                  refine AllReadyIn.cons rfl (fun K hK => ?_) ?_
                  · rw [if_pos (by rfl)]
                    refine operIn_append_run _ _ _ rfl _ _ rfl rfl HR2.out ?_
                    refine hK _ _ ?_
                    clear hK K
                    refine wpAnyIn_ready (rs := [7]) (by kernel_rfl) (by simp) ?_
                    refine AllReadyIn.cons rfl (fun K hK => ?_) ?_
                    · go_simp
                      refine hK _ _ ?_
                      clear hK K
                      refine wpAnyIn_done (by kernel_rfl) ?_ _
                      gi_wp2_with fail
                      exact ⟨HK2.out, _, _, HG2.out⟩
                    exact AllReadyIn.nil
                  exact AllReadyIn.nil
                exact AllReadyIn.nil
              refine AllReadyIn.cons rfl (fun K hK => ?_) ?_
              · go_simp
                refine hK _ _ ?_
                clear hK K
                refine wpAnyIn_ready (rs := [0]) (by kernel_rfl) (by simp) ?_
                refine AllReadyIn.cons rfl (fun K hK => ?_) ?_
                · go_simp
                  refine hK _ _ ?_
                  clear hK K
                  refine wpAnyIn_take (i := 2) (v := .slice (some ⟨gb, 0, none⟩) gc gc) rfl rfl (by kernel_rfl) (by kernel_rfl) (by kernel_rfl) (fun _ _ _ h => h) ⟨Or.inl ⟨by rfl, ?_⟩, fun _ => rfl⟩ ?_
                  · intro wx
                    go_simp
                  refine wpAnyIn_ready (rs := [6]) (by kernel_rfl) (by simp) ?_
                  refine AllReadyIn.cons rfl (fun K hK => ?_) ?_
                  · rw [if_pos (by rfl)]
                    refine operIn_append_run _ _ _ rfl _ _ rfl rfl HR2.out ?_
                    refine hK _ _ ?_
                    clear hK K
                    refine wpAnyIn_ready (rs := [7]) (by kernel_rfl) (by simp) ?_
                    refine AllReadyIn.cons rfl (fun K hK => ?_) ?_
                    · go_simp
                      refine hK _ _ ?_
                      clear hK K
                      refine wpAnyIn_done (by kernel_rfl) ?_ _
                      gi_wp2_with fail
                      exact ⟨HK2.out, _, _, HG2.out⟩
                    exact AllReadyIn.nil
                  exact AllReadyIn.nil
                exact AllReadyIn.nil
              exact AllReadyIn.nil
            exact AllReadyIn.nil
          · have HSl : Hid (RdV wc (.slice (some ⟨gb, r, none⟩) (vals.length - r) (gc - r)) (vals.drop r)) := by
              refine .inr ⟨gb, r, gc - r, by rw [List.length_drop], fun j u hj => ?_⟩
              rw [List.getElem?_drop] at hj
              have h9 := HGq.out.own
              rw [HGv.out] at h9
              rw [World.ownsRow.cellAt h9 (r + j) (by have := (List.getElem?_eq_some_iff.1 hj).1; omega)]
              exact hj
            gi_wp2_with fail
            refine ⟨trivial, ?_⟩
            refine (CallsIn.inRound l (callsIn_wide.2 (cloneT_any _ (vals.drop r) _ HSl.out (fun u hu => (HIf.out u (List.mem_of_mem_drop hu)).one) (by rw [List.length_drop]; omega)))).mono ?_
            rintro e w1 ⟨cv, rfl, hoc, hbc⟩
            have HOc := hid hoc
            have HB1 := hid hbc
            clear hoc hbc
            gi_wp2_with fail
            refine ⟨trivial, ?_⟩
            refine (CallsIn.inRound l (callsIn_wide.2 (reverseT_any cv (vals.drop r) _ w1 HOc.out (fun u hu => HIf.out u (List.mem_of_mem_drop hu))))).mono ?_
            rintro e w2 ⟨rfl, hor, hgr2⟩
            have HOr := hid hor
            have HB2 : Hid (Below wc.heap.size wc w2) := HB1.out.grown hgr2 HB1.out.size (fun j hj => own_blk HOc.out hj)
            clear hor hgr2
            have HB9 := hid (below_step HB2.out (drawn_below1 w2))
            have HG9 := hid (HGq.out.later HB9.out)
            have hbx9 := HG9.out.box
            rw [HGv.out] at hbx9
            have HOr9 := hid (ownsRow_later HOr.out (drawn_below1 w2))
            have hszs : sizes ((growR sig (t.drop (t.length - k))).drop r).reverse ≤ 4611686018427387904 := by
              have h1 := sizes_app ((growR sig (t.drop (t.length - k))).take r) ((growR sig (t.drop (t.length - k))).drop r)
              rw [List.take_append_drop, growR_sizes, List.length_drop] at h1
              rw [sizes_rev]
              omega
            have HAp : Hid (Calls Tryz.prog 113 #[cv] w2.drew fun e w' => ∃ bq, e = .returned (.iface 145 (.pointer (some ⟨bq, 0, none⟩))) ∧ w2.drew.heap.size ≤ bq ∧ w'.cell? ⟨bq, 0, none⟩ = some cv ∧ w'.cell? ⟨bq, 1, none⟩ = some (.int .i64 ((1 + sizes ((growR sig (t.drop (t.length - k))).drop r).reverse : Nat) : Int)) ∧ Below w2.drew.heap.size w2.drew w') := by
              have hrev : (vals.drop r).reverse.length = (vals.drop r).length := List.length_reverse
              refine applyT_any cv (vals.drop r).reverse ((growR sig (t.drop (t.length - k))).drop r).reverse (fun b => w.heap.size + 3 ≤ b ∧ b < w2.drew.heap.size ∧ gv.ownBlock ≠ some b) w2.drew (own_rdv (by rw [hrev]; exact HOr9.out)) (TVl.rev (HG9.out.tv.take r).2) (fun b hb => hb.2.1) hszs
            have HPush : Hid (∀ (w3 : World) (bq : Nat), w2.drew.heap.size ≤ bq → w3.cell? ⟨bq, 0, none⟩ = some cv → w3.cell? ⟨bq, 1, none⟩ = some (.int .i64 ((1 + sizes ((growR sig (t.drop (t.length - k))).drop r).reverse : Nat) : Int)) → Below w2.drew.heap.size w2.drew w3 →
                w3.cell? ⟨w.heap.size + 1, 0, none⟩ = some (.slice (some ⟨gb, 0, none⟩) vals.length gc) ∧ ∃ g cp W2, (Builtin.append_ #[147, 147] 147 #[.slice (some ⟨gb, 0, none⟩) r gc, .slice (some ⟨w3.heap.size, 0, none⟩) 1 1]).run Tryz.prog (w3.alloc (.cells #[.iface 145 (.pointer (some ⟨bq, 0, none⟩))] 104)) = .ok (.slice (some ⟨g, 0, none⟩) (r + 1) cp) W2 ∧
                  W2.cell? ⟨w.heap.size + 1, 0, none⟩ = some gv ∧ W2.frozen? ⟨w.heap.size + 1, 0, none⟩ = false ∧ KeepsFrom (w.heap.size + 3) W (W2.setCell ⟨w.heap.size + 1, 0, none⟩ (.slice (some ⟨g, 0, none⟩) (r + 1) cp)) ∧
                  ∃ gv' vals', GI w (W2.setCell ⟨w.heap.size + 1, 0, none⟩ (.slice (some ⟨g, 0, none⟩) (r + 1) cp)) (.slice (some ⟨sg, soff, none⟩) sig.length sc) (.slice (some ⟨b, off, none⟩) t.length cap) gv' vals' (growR sig (t.drop (t.length - (k + 1))))) := fun w3 bq p1 p2 p3 p4 => by
              have hbx3 := (Kp.of_below p4).cell _ _ hbx9
              have hnode := HGq.out.node HB9.out (r := r) HOr9.out p1 p2 p3 p4
              obtain ⟨g, cp, W2, hr2, hb2, hf2, hg2, hk2⟩ := HGq.out.push 147 HGv.out hrl (below_step HB9.out p4) hnode (by omega)
              exact ⟨hbx3, g, cp, W2, hr2, hb2, hf2, HKq.out.trans hk2, _, _, by rw [HSt2.out]; exact hg2⟩
            have hrc : r ≤ gc := by omega
            clear HOr HOc HB1 HB2
            gi_upto_region 9 with fail
            refine wpIn_region_any mixed ?_
            change wpAnyIn _ _ _ _ _ _ _ _ _ (World.drew _)
            refine wpAnyIn_round (F := Fence.wide) l (by kernel_rfl) _ _ _ _ ?_
            refine wpAnyIn_take (i := 1) (v := ?_) rfl rfl (by kernel_rfl) (by kernel_rfl) (by kernel_rfl) (fun _ _ _ h => h) ⟨Or.inl ⟨by rfl, ?_⟩, fun _ => rfl⟩ ?_
            rotate_left
            · intro wx
              go_simp
              try with_reducible rfl
            refine wpAnyIn_take (i := 3) (v := ?_) rfl rfl (by kernel_rfl) (by kernel_rfl) (by kernel_rfl) (fun _ _ _ h => h) ⟨Or.inl ⟨by rfl, ?_⟩, fun _ => rfl⟩ ?_
            rotate_left
            · intro wx
              go_simp
              try with_reducible rfl
            refine wpAnyIn_ready (rs := [0, 4]) (by kernel_rfl) (by simp) ?_
            refine AllReadyIn.cons rfl (fun K hK => ?_) ?_
            · go_simp
              refine hK _ _ ?_
              clear hK K
              refine wpAnyIn_take (i := 2) (v := .slice (some ⟨gb, 0, none⟩) r gc) rfl rfl (by kernel_rfl) (by kernel_rfl) (by kernel_rfl) (fun _ _ _ h => h) ⟨Or.inl ⟨by rfl, ?_⟩, fun _ => rfl⟩ ?_
              · intro wx
                go_simp
              refine wpAnyIn_ready (rs := [4]) (by kernel_rfl) (by simp) ?_
              refine AllReadyIn.cons rfl (fun K hK => ?_) ?_
              · go_simp
                refine ⟨trivial, ?_⟩
                refine (callsIn_wide.2 HAp.out).mono ?_
                rintro e w3 ⟨bq, rfl, p1, p2, p3, p4⟩
                obtain ⟨q1, g, cp, W2, hr2, hb2, hf2, hk2, gv', vals', hg2⟩ := HPush.out w3 bq p1 p2 p3 p4
                have q2 : (w3.alloc (.cells #[.iface 145 (.pointer (some ⟨bq, 0, none⟩))] 104)).cell? ⟨w.heap.size + 1, 0, none⟩ = some (.slice (some ⟨gb, 0, none⟩) vals.length gc) := (Kp.of_below (below_alloc _)).cell _ _ q1
                have HR2 := hid hr2
                have HK2 := hid hk2
                have HG2 := hid hg2
                clear hr2 hk2 hg2 p2 p3 p4
                refine hK _ _ ?_
                clear hK K
                refine wpAnyIn_ready (rs := [5]) (by kernel_rfl) (by simp) ?_
                refine AllReadyIn.cons rfl (fun K hK => ?_) ?_
                · go_simp
                  refine hK _ _ ?_
                  clear hK K
                  refine wpAnyIn_ready (rs := [6]) (by kernel_rfl) (by simp) ?_
                  refine AllReadyIn.cons rfl (fun K hK => ?_) ?_
                  · rw [if_pos (by rfl)]
                    refine operIn_append_run _ _ _ rfl _ _ rfl rfl HR2.out ?_
                    refine hK _ _ ?_
                    clear hK K
                    refine wpAnyIn_ready (rs := [7]) (by kernel_rfl) (by simp) ?_
                    refine AllReadyIn.cons rfl (fun K hK => ?_) ?_
                    · go_simp
                      refine hK _ _ ?_
                      clear hK K
                      refine wpAnyIn_done (by kernel_rfl) ?_ _
                      gi_wp2_with fail
                      exact ⟨HK2.out, _, _, HG2.out⟩
                    exact AllReadyIn.nil
                  exact AllReadyIn.nil
                exact AllReadyIn.nil
              exact AllReadyIn.nil
            refine AllReadyIn.cons rfl (fun K hK => ?_) ?_
            · go_simp
              refine ⟨trivial, ?_⟩
              refine (callsIn_wide.2 HAp.out).mono ?_
              rintro e w3 ⟨bq, rfl, p1, p2, p3, p4⟩
              obtain ⟨q1, g, cp, W2, hr2, hb2, hf2, hk2, gv', vals', hg2⟩ := HPush.out w3 bq p1 p2 p3 p4
              have q2 : (w3.alloc (.cells #[.iface 145 (.pointer (some ⟨bq, 0, none⟩))] 104)).cell? ⟨w.heap.size + 1, 0, none⟩ = some (.slice (some ⟨gb, 0, none⟩) vals.length gc) := (Kp.of_below (below_alloc _)).cell _ _ q1
              have HR2 := hid hr2
              have HK2 := hid hk2
              have HG2 := hid hg2
              clear hr2 hk2 hg2 p2 p3 p4
              refine hK _ _ ?_
              clear hK K
              refine wpAnyIn_ready (rs := [0, 5]) (by kernel_rfl) (by simp) ?_
              refine AllReadyIn.cons rfl (fun K hK => ?_) ?_
              · go_simp
                refine hK _ _ ?_
                clear hK K
                refine wpAnyIn_take (i := 2) (v := .slice (some ⟨gb, 0, none⟩) r gc) rfl rfl (by kernel_rfl) (by kernel_rfl) (by kernel_rfl) (fun _ _ _ h => h) ⟨Or.inl ⟨by rfl, ?_⟩, fun _ => rfl⟩ ?_
                · intro wx
                  go_simp
                refine wpAnyIn_ready (rs := [5]) (by kernel_rfl) (by simp) ?_
                refine AllReadyIn.cons rfl (fun K hK => ?_) ?_
                · go_simp
                  refine hK _ _ ?_
                  clear hK K
                  refine wpAnyIn_ready (rs := [6]) (by kernel_rfl) (by simp) ?_
                  refine AllReadyIn.cons rfl (fun K hK => ?_) ?_
                  · rw [if_pos (by rfl)]
                    refine operIn_append_run _ _ _ rfl _ _ rfl rfl HR2.out ?_
                    refine hK _ _ ?_
                    clear hK K
                    refine wpAnyIn_ready (rs := [7]) (by kernel_rfl) (by simp) ?_
                    refine AllReadyIn.cons rfl (fun K hK => ?_) ?_
                    · go_simp
                      refine hK _ _ ?_
                      clear hK K
                      refine wpAnyIn_done (by kernel_rfl) ?_ _
                      gi_wp2_with fail
                      exact ⟨HK2.out, _, _, HG2.out⟩
                    exact AllReadyIn.nil
                  exact AllReadyIn.nil
                exact AllReadyIn.nil
              refine AllReadyIn.cons rfl (fun K hK => ?_) ?_
              · go_simp
                refine hK _ _ ?_
                clear hK K
                refine wpAnyIn_ready (rs := [0]) (by kernel_rfl) (by simp) ?_
                refine AllReadyIn.cons rfl (fun K hK => ?_) ?_
                · go_simp
                  refine hK _ _ ?_
                  clear hK K
                  refine wpAnyIn_take (i := 2) (v := .slice (some ⟨gb, 0, none⟩) r gc) rfl rfl (by kernel_rfl) (by kernel_rfl) (by kernel_rfl) (fun _ _ _ h => h) ⟨Or.inl ⟨by rfl, ?_⟩, fun _ => rfl⟩ ?_
                  · intro wx
                    go_simp
                  refine wpAnyIn_ready (rs := [6]) (by kernel_rfl) (by simp) ?_
                  refine AllReadyIn.cons rfl (fun K hK => ?_) ?_
                  · rw [if_pos (by rfl)]
                    refine operIn_append_run _ _ _ rfl _ _ rfl rfl HR2.out ?_
                    refine hK _ _ ?_
                    clear hK K
                    refine wpAnyIn_ready (rs := [7]) (by kernel_rfl) (by simp) ?_
                    refine AllReadyIn.cons rfl (fun K hK => ?_) ?_
                    · go_simp
                      refine hK _ _ ?_
                      clear hK K
                      refine wpAnyIn_done (by kernel_rfl) ?_ _
                      gi_wp2_with fail
                      exact ⟨HK2.out, _, _, HG2.out⟩
                    exact AllReadyIn.nil
                  exact AllReadyIn.nil
                exact AllReadyIn.nil
              exact AllReadyIn.nil
            exact AllReadyIn.nil
  case done =>
    rintro D W hD ⟨gv, vals, hg⟩ hdf
    obtain ⟨T, hT, _⟩ := grow_one HA.out HR.out
    rw [show t.length - t.length = 0 by omega, List.drop_zero, hT] at hg
    obtain ⟨u, hvs⟩ : ∃ u, vals = [u] := by
      have h1 := hg.tv.len
      match vals, h1 with
      | [u], _ => exact ⟨u, rfl⟩
    subst hvs
    obtain ⟨gb, gc, hgv, hgc⟩ : ∃ gb gc, gv = .slice (some ⟨gb, 0, none⟩) 1 gc ∧ 1 ≤ gc := by
      rcases hg.own.2 with ⟨_, h9⟩ | ⟨g8, c8, cur8, h8, _, _, h9, _⟩
      · cases h9
      · exact ⟨g8, c8, h8, h9⟩
    have hbx := hg.box
    rw [hgv] at hbx
    have hown := hg.own
    rw [hgv] at hown
    have hcell := World.ownsRow.cellAt hown 0 (by simp)
    simp only [List.getElem?_cons_zero] at hcell
    have HG := hid hg
    have HT := hid hT
    clear hown hg hT
    gi_wp2_with fail
    refine ⟨by simp, .inl ⟨_, _, rfl, run_takeDeferred hdf, ?_⟩⟩
    have hgp := HG.out.put (o' := .deferred none) (by simpa using hD) hdf rfl
    exact ⟨_, results_tmp rfl _ _ _, u, T, _, rfl, HT.out, hgp.tv.1, fun b hb => ⟨by omega, hb.2.1⟩, hgp.bel⟩

end Go.Proofs.YtdjmjhlbjcgoiaaGreatDoor

/- Rows that are spoilt; rows of one's own that lie apart. -/
namespace Go.Proofs.YtdjmjhlbjcgoiaaGreatDoor
open Go.RowKit Go.Maps Go.BigFrame

theorem own_blk_lt {w : World} {base : Nat} {e : TypeId} {s m j : Nat} {v : Value} {xs : List Value} (h : w.ownsRow base e s v m xs) (hj : v.ownBlock = some j) : j < w.heap.size := by
  rcases h.2 with ⟨rfl, _⟩ | ⟨g', cap, cur, rfl, hb, hg, _⟩
  · cases hj
  · cases hj
    exact (Array.getElem?_eq_some_iff.1 hg).1

/-- A number joined to a row of one's own, with what becomes of its block. -/
theorem join_one (ty : TypeId) {w : World} {base : Nat} {x : Value} {xs : List Int} {c : Int} (ho : OwI w base x xs) (h1 : -9223372036854775808 ≤ c) (h2 : c ≤ 9223372036854775807) (hb : base ≤ w.heap.size) (hl : (xs.length + 1) * 8 ≤ 140737488355328) :
    ∃ v' w', (Builtin.append_ #[30, 30] ty #[x, .slice (some ⟨w.heap.size, 0, none⟩) 1 1]).run Tryz.prog (w.alloc (.cells #[.int .i64 c] 3)) = .ok v' w' ∧ OwI w' base v' (xs ++ [c]) ∧ (w.alloc (.cells #[.int .i64 c] 3)).grownBy w' x.ownBlock ∧ (v'.ownBlock = x.ownBlock ∨ v'.ownBlock = some (w.alloc (.cells #[.int .i64 c] 3)).heap.size) := by
  obtain ⟨i0, hi, hz0, hz1, hz2⟩ := info_parts info_int
  obtain ⟨v', w', hr, g2, g3, _, g5⟩ := run_append_own_at (P := Tryz.prog) (w.alloc (.cells #[.int .i64 c] 3)) base 30 ty 3 i0 _ 1 8 under_ints hi hz0 hz1 hz2 rfl (by decide) x xs.length (xs.map I64) (ownsRow_later ho.2 (below_alloc _)) ⟨w.heap.size, 0, none⟩ 1 1 [I64 c] rfl
    (fun j u hj => by
      rw [Addr.add_lit, Nat.zero_add]
      cases j with
      | zero => simp at hj; subst hj; exact cell_new rfl
      | succ j => simp at hj) (fun u hu => by simp at hu; subst hu; rfl) (by unfold maxLen; omega) (by omega) (Nat.le_trans hb (below_alloc _).size)
  refine ⟨v', w', hr, ⟨fun k y hk => ?_, ?_⟩, g3, g5⟩
  · by_cases hkl : k < xs.length
    · rw [List.getElem?_append_left hkl] at hk
      exact ho.1 k y hk
    · rw [List.getElem?_append_right (by omega)] at hk
      have hk0 : k - xs.length = 0 := by
        have := (List.getElem?_eq_some_iff.1 hk).1
        simp at this
        omega
      rw [hk0] at hk
      simp at hk
      subst hk
      exact ⟨h1, h2⟩
  · rw [List.length_append, List.map_append]
    exact g2

end Go.Proofs.YtdjmjhlbjcgoiaaGreatDoor
