/- Texts of the proof, one behind the other. -/
import Derived.Test.YthjghdpiokpnfaaDoorOwn14
import Derived.Test.YthjghdpiokpnfaaDoorOwn3
import Derived.Test.YthjghdpiokpnfaaDoorOwn8
import Derived.Test.YthjghdpiokpnfaaDoorOwn13
import Derived.Test.YthjghdpiokpnfaaDoorOwn11
import Derived.BigRegion
/- A row of all symbols, each above those behind it: plain. -/
namespace Go.Proofs.YthjghdpiokpnfaaDoor
open Go.RowKit Go.Maps

def rowN (n : Nat) : List Int := (List.range n).map fun i : Nat => (i : Int)

theorem rowN_mem {n : Nat} {c : Int} : c ∈ rowN n ↔ 0 ≤ c ∧ c < n := by
  unfold rowN
  rw [List.mem_map]
  constructor
  · rintro ⟨i, hi, rfl⟩
    have := List.mem_range.1 hi
    omega
  · rintro ⟨h0, h1⟩
    exact ⟨c.toNat, List.mem_range.2 (by omega), by omega⟩

theorem rowN_nodup (n : Nat) : (rowN n).Nodup := by
  unfold rowN
  rw [List.nodup_iff_pairwise_ne, List.pairwise_map]
  exact (List.nodup_iff_pairwise_ne.1 List.nodup_range).imp (fun h e => h (by omega))

theorem rowN_succ (n : Nat) : rowN (n + 1) = rowN n ++ [(n : Int)] := by
  unfold rowN
  rw [List.range_succ, List.map_append]
  rfl

/-- Each above the one behind it. -/
def chain (M : List Int) : List (Int × Int) := M.zip M.tail

theorem chain_at {M : List Int} {k : Nat} {x y : Int} (h1 : M[k]? = some x) (h2 : M[k + 1]? = some y) : (chain M)[k]? = some (x, y) := by
  unfold chain
  rw [List.getElem?_zip_eq_some]
  exact ⟨h1, by rw [List.getElem?_tail]; exact h2⟩

theorem chain_mem {M : List Int} {x y : Int} (h : (x, y) ∈ chain M) : ∃ k : Nat, M[k]? = some x ∧ M[k + 1]? = some y := by
  obtain ⟨k, hk⟩ := List.getElem?_of_mem h
  unfold chain at hk
  rw [List.getElem?_zip_eq_some] at hk
  exact ⟨k, hk.1, by have := hk.2; rw [List.getElem?_tail] at this; exact this⟩

theorem chain_len (M : List Int) : (chain M).length = M.length - 1 := by
  unfold chain
  rw [List.length_zip, List.length_tail]
  omega

theorem nodup_at {M : List Int} (h : M.Nodup) {p q : Nat} {x : Int} (h1 : M[p]? = some x) (h2 : M[q]? = some x) : p = q := by
  obtain ⟨hp, e1⟩ := List.getElem?_eq_some_iff.1 h1
  obtain ⟨hq, e2⟩ := List.getElem?_eq_some_iff.1 h2
  exact (List.getElem_inj h).1 (e1.trans e2.symm)

theorem chain_up {M : List Int} (h : M.Nodup) {i j : Nat} (hu : Up (chain M) i j) : ∃ p q : Nat, p < q ∧ M[p]? = some (i : Int) ∧ M[q]? = some (j : Int) := by
  refine hu (fun i j => ∃ p q : Nat, p < q ∧ M[p]? = some (i : Int) ∧ M[q]? = some (j : Int)) (fun i j hp => ?_) (fun i j k h1 h2 => ?_)
  · obtain ⟨k, h1, h2⟩ := chain_mem hp
    exact ⟨k, k + 1, by omega, h1, h2⟩
  · obtain ⟨p, q, hpq, e1, e2⟩ := h1
    obtain ⟨p', q', hpq', e3, e4⟩ := h2
    have := nodup_at h e2 e3
    exact ⟨p, q', by omega, e1, e4⟩

theorem chain_no {M : List Int} (h : M.Nodup) (i : Nat) : ¬ Up (chain M) i i := fun hu => by
  obtain ⟨p, q, hpq, e1, e2⟩ := chain_up h hu
  have := nodup_at h e1 e2
  omega

theorem up_chain {M : List Int} (h0 : ∀ c ∈ M, 0 ≤ c) : ∀ (d p q : Nat), q = p + 1 + d → ∀ {i j : Nat}, M[p]? = some (i : Int) → M[q]? = some (j : Int) → Up (chain M) i j
  | 0, p, q, e, i, j, h1, h2 => Up.base (by
      subst e
      exact List.mem_of_getElem? (chain_at h1 h2))
  | d + 1, p, q, e, i, j, h1, h2 => by
    have hq := (List.getElem?_eq_some_iff.1 h2).1
    obtain ⟨c, hc⟩ : ∃ c, M[p + 1]? = some c := ⟨_, List.getElem?_eq_getElem (by omega)⟩
    have hc0 := h0 c (List.mem_of_getElem? hc)
    obtain ⟨k, rfl⟩ : ∃ k : Nat, c = (k : Int) := ⟨c.toNat, by omega⟩
    exact Up.tr _ _ _ _ (Up.base (List.mem_of_getElem? (chain_at h1 hc))) (up_chain h0 d (p + 1) q (by omega) hc h2)

theorem chain_total {n : Nat} {M : List Int} (hM : M.Perm (rowN n)) {f g : Int} (hf : 0 ≤ f ∧ f < n) (hg : 0 ≤ g ∧ g < n) (hne : f ≠ g) : abB (chain M) f g = true ∨ abB (chain M) g f = true := by
  have h0 : ∀ c ∈ M, 0 ≤ c := fun c hc => (rowN_mem.1 (hM.mem_iff.1 hc)).1
  obtain ⟨p, hp⟩ := List.getElem?_of_mem (hM.mem_iff.2 (rowN_mem.2 hf))
  obtain ⟨q, hq⟩ := List.getElem?_of_mem (hM.mem_iff.2 (rowN_mem.2 hg))
  have ef : f = (f.toNat : Int) := by omega
  have eg : g = (g.toNat : Int) := by omega
  rcases Nat.lt_trichotomy p q with h | h | h
  · refine .inl ((abB_iff _ _ _).2 ⟨hf.1, hg.1, up_chain h0 (q - p - 1) p q (by omega) ?_ ?_⟩)
    · rw [← ef]; exact hp
    · rw [← eg]; exact hq
  · subst h
    rw [hp] at hq
    exact absurd (Option.some.inj hq) hne
  · refine .inr ((abB_iff _ _ _).2 ⟨hg.1, hf.1, up_chain h0 (p - q - 1) q p (by omega) ?_ ?_⟩)
    · rw [← eg]; exact hq
    · rw [← ef]; exact hp

theorem chain_close {n : Nat} {M : List Int} (hM : M.Perm (rowN n)) (hn : n ≤ 128) : closeE n (chain M) = 0 ∧ ∀ i, ¬ Up (chain M) i i := by
  have hnd : M.Nodup := hM.nodup_iff.2 (rowN_nodup n)
  refine ⟨closeE_ok (by omega) (by omega) (fun x hx => ?_) (chain_no hnd), chain_no hnd⟩
  obtain ⟨k, h1, h2⟩ := chain_mem (x := x.1) (y := x.2) hx
  have a1 := rowN_mem.1 (hM.mem_iff.1 (List.mem_of_getElem? h1))
  have a2 := rowN_mem.1 (hM.mem_iff.1 (List.mem_of_getElem? h2))
  omega

mutual
theorem grd_of {sig : List Sy} {n : Nat} : ∀ {x : Te}, WfT sig x → (∀ c ∈ x.row, 0 ≤ c ∧ c < n) → Grd (fun c => 0 ≤ c ∧ c < n) (arN sig) x
  | .v c, hw, h => by
    cases hw with
    | v hc => have := h c (by simp [Te.row]); omega
  | .a c ts, hw, h => by
    cases hw with
    | a hc hl hts => exact .mk (h c (by simp [Te.row])) hl (grds_of hts (fun d hd => h d (by simp [Te.row, hd])))
theorem grds_of {sig : List Sy} {n : Nat} : ∀ {ts : List Te}, (∀ x ∈ ts, WfT sig x) → (∀ c ∈ rowL ts, 0 ≤ c ∧ c < n) → ∀ x ∈ ts, Grd (fun c => 0 ≤ c ∧ c < n) (arN sig) x
  | [], _, _, x, hx => by cases hx
  | y :: ts, hw, h, x, hx => by
    rcases List.mem_cons.1 hx with e | hx
    · rw [e]
      exact grd_of (hw y (List.mem_cons_self ..)) (fun c hc => h c (by simp [rowL, hc]))
    · exact grds_of (fun z hz => hw z (List.mem_cons_of_mem _ hz)) (fun c hc => h c (by simp [rowL, hc])) x hx
end

theorem code_sym {sig : List Sy} {c : Int} (h : codeD sig c ≠ none) (hc : ¬ c < 0) : 0 ≤ c ∧ c < sig.length := by
  refine ⟨by omega, ?_⟩
  by_cases h1 : (sig.length : Int) ≤ c
  · exact absurd (codeD_none (.inl h1)) h
  · omega

theorem sym_codes {sig : List Sy} {t : List Int} (ht : mayB sig t = true) (hv : varsL t = []) : ∀ c ∈ t, 0 ≤ c ∧ c < sig.length := fun c hc => by
  obtain ⟨_, _, hr⟩ := may_parts ht
  refine code_sym (row_codeL hr c hc) (fun h0 => ?_)
  have := mem_varsL.2 ⟨c, hc, h0, rfl⟩
  rw [hv] at this
  cases this

/-- With a row of all symbols any two unlike terms without variables are told apart. -/
theorem gr_total {sig : List Sy} {M : List Int} (hM : M.Perm (rowN sig.length)) {a b : List Int} (ha : mayB sig a = true) (hb : mayB sig b = true) (va : varsL a = []) (vb : varsL b = []) (hne : a ≠ b) : grB sig (chain M) a b = true ∨ grB sig (chain M) b a = true := by
  obtain ⟨x, hx, hxr, wx⟩ := may_tree ha
  obtain ⟨y, hy, hyr, wy⟩ := may_tree hb
  have gx := grd_of (n := sig.length) wx (fun c hc => sym_codes ha va c (hxr ▸ hc))
  have gy := grd_of (n := sig.length) wy (fun c hc => sym_codes hb vb c (hyr ▸ hc))
  rcases LG.total (ab := abB (chain M)) (fun f g hf hg h => chain_total hM hf hg h) _ (Nat.le_refl _) gx gy (fun e => hne (by rw [← hxr, ← hyr, e])) with h | h
  · exact .inl ((gr_yes ha hb hx hy).2 h)
  · exact .inr ((gr_yes hb ha hy hx).2 h)

theorem sig_some {sig : List Sy} {t : List Int} (ht : mayB sig t = true) (hv : varsL t = []) : 1 ≤ sig.length := by
  obtain ⟨x, _, hxr, _⟩ := may_tree ht
  have hp := size_pos x
  rw [← size_row, hxr] at hp
  obtain ⟨c, hc⟩ : ∃ c, t[0]? = some c := ⟨_, List.getElem?_eq_getElem hp⟩
  have := sym_codes ht hv c (List.mem_of_getElem? hc)
  omega

end Go.Proofs.YthjghdpiokpnfaaDoor

/- The document's Vars walked. -/
namespace Go.Proofs.YthjghdpiokpnfaaDoor
open Go.RowKit Go.Maps Go.BigFrame

theorem mem_take_next {m : List Int} {k : Nat} {x c : Int} (h : m[k]? = some x) : decide (c ∈ m.take (k + 1)) = (decide (c ∈ m.take k) || decide (x = c)) := by
  rw [take_get h]
  by_cases h1 : c ∈ m.take k
  · simp [h1]
  · by_cases h2 : x = c
    · simp [h2]
    · have h3 : ¬ c = x := fun e => h2 e.symm
      simp [h1, h2, h3]

set_option maxRecDepth 100000 in
set_option maxHeartbeats 1600000 in
theorem refVars_any (v : Value) (t : List Int) (w : World) (h : Is w v t) (hb : t.length * 8 ≤ 140737488355328) :
    Calls Tryd.prog 19 #[v] w fun e w' => ∃ v', e = .returned v' ∧ OwI w' w.heap.size v' (varsL t) ∧ Below w.heap.size w w' := by
  obtain ⟨ao, cap, rfl, hao, hca, q0⟩ := Row.flat h
  unfold maxLen at hca
  have HT := hid h
  clear h q0
  go_enter Tryd.func19, Tryd.ntmps19
  go_wp2
  go_loopw [3, 4] (fun x iv wr => ∃ (i : Nat) (m : List Int), i ≤ t.length ∧ iv = .int .i64 i ∧ metA [] t = metA m (t.drop i) ∧ m.length ≤ i ∧ ZI m ∧ OwI wr w.heap.size x (m.map fun c => -1 - c) ∧ Below w.heap.size w wr) (fun _ iv _ => t.length - (intOf iv).toNat)
  case atStart => exact ⟨0, [], Nat.zero_le _, rfl, rfl, Nat.le_refl _, fun k x hk => (by simp at hk), nilI _ _, Below.refl _ _⟩
  case round =>
    obtain ⟨i, m, hi, rfl, hme, hml, hzm, how, hbl⟩ := hrel
    obtain ⟨bo, bc, hxv, hbc1, hbc2⟩ := how.shape
    rw [List.length_map] at hxv hbc1
    subst hxv
    unfold maxLen at hbc2
    have HMe := hid hme
    have HOw := hid how
    have HB := hid hbl
    have HZ := hid hzm
    clear hme how hzm
    by_cases hlt : i < t.length
    · obtain ⟨g, off, c, rfl, hx1, hx2, hx3, hx4⟩ := (HT.out.kp (Kp.of_below hbl)).at hlt
      have HD := hid (drop_get hx1)
      clear hx1 hbl
      go_wp2
      go_loopw [5, 6] (fun bv kv ws => ∃ (k : Nat) (B : Bool), k ≤ m.length ∧ kv = .int .i64 k ∧ bv = .bool B ∧ B = (decide (0 ≤ c) || decide (c ∈ m.take k)) ∧ ∃ n, ws = wr.drewN n) (fun _ kv _ => m.length - (intOf kv).toNat)
      case atStart => exact ⟨0, decide (0 ≤ c), Nat.zero_le _, rfl, rfl, by simp, 0, rfl⟩
      case round =>
        obtain ⟨k, B, hk, rfl, rfl, hB, n, rfl⟩ := hrel
        have HBb := hid hB
        clear hB
        by_cases hkl : k < m.length
        · obtain ⟨x, hx⟩ : ∃ x, m[k]? = some x := ⟨_, List.getElem?_eq_getElem hkl⟩
          have hxz := HZ.out k x hx
          obtain ⟨g2, off2, y, rfl, hy1, hy2, hy3, hy4⟩ := HOw.out.is.at (k := k) (by rw [List.length_map]; exact hkl)
          rw [List.getElem?_map, hx] at hy1
          simp only [Option.map_some, Option.some.injEq] at hy1
          have HN := hid (mem_take_next (c := c) hx)
          clear hx
          cases B with
          | true =>
            have HB2 : Hid (true = (decide (0 ≤ c) || decide (c ∈ m.take (k + 1)))) := by
              show _ = _
              rw [HN.out, ← Bool.or_assoc, ← HBb.out]
              rfl
            clear hy1 hy2
            go_wp2
            go_quiet (fail)
            go_wp2
            go_roundw
            case rel => exact ⟨k + 1, true, by omega, by go_num, rfl, HB2.out, _, rfl⟩
            case measure => simp [intOf]; omega
          | false =>
            have hwc : IntKind.i64.wrap (-1 - c) = -1 - c := IntWalk.i64_in _ ⟨by omega, by omega⟩
            by_cases hxc : x = c
            · have HB2 : Hid (true = (decide (0 ≤ c) || decide (c ∈ m.take (k + 1)))) := by
                show _ = _
                rw [HN.out, ← Bool.or_assoc, ← HBb.out, decide_eq_true hxc]
                rfl
              have hyc : (y == -1 - c) = true := by rw [beq_iff_eq]; omega
              clear hy1 hxc
              go_wp2
              go_quiet (fail)
              go_wp2
              go_roundw
              case rel => exact ⟨k + 1, true, by omega, by go_num, rfl, HB2.out, _, rfl⟩
              case measure => simp [intOf]; omega
            · have HB2 : Hid (false = (decide (0 ≤ c) || decide (c ∈ m.take (k + 1)))) := by
                show _ = _
                rw [HN.out, ← Bool.or_assoc, ← HBb.out, decide_eq_false hxc]
                rfl
              have hyc : (y == -1 - c) = false := by rw [beq_eq_false_iff_ne]; omega
              clear hy1 hxc
              go_wp2
              go_quiet (fail)
              go_wp2
              go_roundw
              case rel => exact ⟨k + 1, false, by omega, by go_num, rfl, HB2.out, _, rfl⟩
              case measure => simp [intOf]; omega
        · have hke : k = m.length := by omega
          have HBf : Hid (B = (decide (0 ≤ c) || decide (c ∈ m))) := by show _ = _; rw [HBb.out, hke, List.take_length]
          have HBn := hid (below_drewN HB.out n)
          have HOn := hid (HOw.out.later (below_drewN (Below.refl _ _) n))
          clear HBb
          cases B with
          | true =>
            have HN : Hid (metA [] t = metA m (t.drop (i + 1))) := by
              show _ = _
              rw [HMe.out, HD.out, metA, if_pos]
              have := HBf.out
              simp only [Bool.true_eq, Bool.or_eq_true, decide_eq_true_eq] at this
              exact this
            go_wp2
            go_roundw
            case rel => exact ⟨i + 1, m, by omega, by go_num, HN.out, by omega, HZ.out, HOn.out, HBn.out⟩
            case measure => simp [intOf]; omega
          | false =>
            have hno : ¬ (0 ≤ c ∨ c ∈ m) := by
              have := HBf.out
              intro h9
              rw [eq_comm, Bool.or_eq_false_iff, decide_eq_false_iff_not, decide_eq_false_iff_not] at this
              rcases h9 with h9 | h9
              · exact this.1 h9
              · exact this.2 h9
            have HN : Hid (metA [] t = metA (m ++ [c]) (t.drop (i + 1))) := by
              show _ = _
              rw [HMe.out, HD.out, metA, if_neg hno]
            have hwc : IntKind.i64.wrap (-1 - c) = -1 - c := IntWalk.i64_in _ ⟨by omega, by omega⟩
            obtain ⟨v6, w6, hr6, ho6, hg6, _⟩ := join_one 24 (c := -1 - c) HOn.out (by omega) (by omega) HBn.out.size (by rw [List.length_map]; omega)
            have hb6 := (below_step HBn.out (below_alloc _)).grown hg6 (below_step HBn.out (below_alloc _)).size (fun j hj => own_blk HOn.out.2 hj)
            have HR6 := hid hr6
            have HO6 : Hid (OwI w6 w.heap.size v6 ((m ++ [c]).map fun c => -1 - c)) := by
              rw [List.map_append]
              exact ho6
            have HB6 := hid hb6
            have HZ2 : Hid (ZI (m ++ [c])) := fun k y hk => by
              by_cases hkl : k < m.length
              · rw [List.getElem?_append_left hkl] at hk
                exact HZ.out k y hk
              · rw [List.getElem?_append_right (by omega)] at hk
                have : y = c := by
                  have h9 := List.mem_of_getElem? hk
                  simpa using h9
                omega
            clear hr6 ho6 hg6 hb6 hno
            go_wp2_with (first
              | (at_builtin; refine wpList_append_run rfl _ _ _ rfl _ _ rfl rfl HR6.out ?_))
            go_roundw
            case rel => exact ⟨i + 1, m ++ [c], by omega, by go_num, HN.out, by rw [List.length_append, List.length_singleton]; omega, HZ2.out, HO6.out, HB6.out⟩
            case measure => simp [intOf]; omega
    · have HF : Hid (varsL t = m.map fun c => -1 - c) := by show _ = _; unfold varsL; rw [HMe.out, List.drop_of_length_le (by omega)]; rfl
      go_wp2
      go_ret
      exact ⟨_, rfl, by rw [HF.out]; exact HOw.out, HB.out⟩

end Go.Proofs.YthjghdpiokpnfaaDoor

/- More pairs in the precedence take nothing away. -/
namespace Go.Proofs.YthjghdpiokpnfaaDoor
open Go.RowKit Go.Maps Go.BigFrame

theorem step_append_runL {P : Program} {ops : Array Oper} {o : Oper} {a : Act} {w w' : World} {v' : Value} {K : Act → World → Prop} {Q : Exit → Act → World → Prop} {E : Prop} (hgd : o.guard = none) (s x : Operand) (t : TypeId)
    (ho : o.op = .call { callee := .builtin .append, args := #[s, x], argTypes := #[t, t] }) (v u : Value) (hs : a.eval s = v) (hx : a.eval x = u)
    (hr : (Builtin.append_ #[t, t] o.type #[v, u]).run P w = .ok v' w') (hK : K (a.put o.dst v') w') :
    if Region.wanted o (yielded ops a.tmps) = true then Oper.wp P o a w K Q else E := by
  have hw : Region.wanted o (yielded ops a.tmps) = true := by simp [Region.wanted, hgd]
  rw [if_pos hw]
  unfold Oper.wp execOp
  simp only [ho, resolve, invoke, builtin, Sem.run_bind, Sem.run_pure, Result.andThen_ok, List.map_toArray, List.map_cons, List.map_nil, hs, hx, hr]
  exact hK

set_option maxRecDepth 100000 in
set_option maxHeartbeats 6400000 in
theorem lpoMore_any (sv p0 p1 v0 v1 : Value) (sig : List Sy) (ps qs : List (Int × Int)) (a b : List Int) (w : World) (hs : Sg w sv sig) (hp : Prs w p0 ps) (hq : Prs w p1 qs) (h0 : Is w v0 a) (h1 : Is w v1 b) (hT : Tabs w) (lp : ps.length + qs.length ≤ 1048576) :
    Calls Tryd.prog 7 #[sv, .agg #[p0, p1], .agg #[v0, v1]] w fun e w' => e = .returned (.bool true) ∧ Below w.heap.size w w' := by
  obtain ⟨a0, c0, rfl, ha0, hc0, _⟩ := h0.flatI
  obtain ⟨a1, c1, rfl, ha1, hc1, _⟩ := h1.flatI
  obtain ⟨ap, cp, rfl, hap, hcp, _⟩ := Row.flat hp
  obtain ⟨aq, cq, rfl, haq, hcq, _⟩ := Row.flat hq
  unfold maxLen at hcp hcq
  have HS := hid hs
  have HP := hid hp
  have HQ := hid hq
  have H0 := hid h0
  have H1 := hid h1
  have HT := hid hT
  have HB := hid (below_step (below_alloc (w := w) (.cells #[.slice ap ps.length cp, .slice aq qs.length cq] 51)) (below_alloc (w := w.alloc (.cells #[.slice ap ps.length cp, .slice aq qs.length cq] 51)) (.cells #[.slice a0 a.length c0, .slice a1 b.length c1] 25)))
  have k0 : ((w.alloc (.cells #[.slice ap ps.length cp, .slice aq qs.length cq] 51)).alloc (.cells #[.slice a0 a.length c0, .slice a1 b.length c1] 25)).cell? ⟨w.heap.size, 0, none⟩ = some (.slice ap ps.length cp) := cell_old (by rw [cell_of_row _ _ _ _ _ _ (heap_alloc_new _ _)]; rfl)
  have k1 : ((w.alloc (.cells #[.slice ap ps.length cp, .slice aq qs.length cq] 51)).alloc (.cells #[.slice a0 a.length c0, .slice a1 b.length c1] 25)).cell? ⟨w.heap.size, 1, none⟩ = some (.slice aq qs.length cq) := cell_old (by rw [cell_of_row _ _ _ _ _ _ (heap_alloc_new _ _)]; rfl)
  have k2 : ((w.alloc (.cells #[.slice ap ps.length cp, .slice aq qs.length cq] 51)).alloc (.cells #[.slice a0 a.length c0, .slice a1 b.length c1] 25)).cell? ⟨w.heap.size + 1, 0, none⟩ = some (.slice a0 a.length c0) := cell_newg (by simp) rfl
  have k3 : ((w.alloc (.cells #[.slice ap ps.length cp, .slice aq qs.length cq] 51)).alloc (.cells #[.slice a0 a.length c0, .slice a1 b.length c1] 25)).cell? ⟨w.heap.size + 1, 1, none⟩ = some (.slice a1 b.length c1) := cell_newg (by simp) rfl
  clear hs hp hq h0 h1 hT
  go_enter Tryd.func7, Tryd.ntmps7
  go_wp2_with fail
  generalize (w.alloc (.cells #[.slice ap ps.length cp, .slice aq qs.length cq] 51)).alloc (.cells #[.slice a0 a.length c0, .slice a1 b.length c1] 25) = W1 at HB k0 k1 k2 k3 ⊢
  refine (shown11_any W1 (HT.out.below HB.out)).mono ?_
  rintro e w1 ⟨rfl, hb⟩
  have HBn := hid (below_step HB.out hb)
  have k0n := (Kp.of_below hb).cell _ _ k0
  have k1n := (Kp.of_below hb).cell _ _ k1
  have k2n := (Kp.of_below hb).cell _ _ k2
  have k3n := (Kp.of_below hb).cell _ _ k3
  clear hb HB k0 k1 k2 k3
  have HB := HBn
  have k0 := k0n
  have k1 := k1n
  have k2 := k2n
  have k3 := k3n
  clear HBn k0n k1n k2n k3n
  go_wp2_with fail
  refine (both11_any sv _ sig ps w1 (HS.out.kp (Kp.of_below HB.out)) (HP.out.kp (Kp.of_below HB.out))).mono ?_
  intro e w2 hO
  obtain ⟨hb, hor⟩ := hO
  have HBn := hid (below_step HB.out hb)
  have k0n := (Kp.of_below hb).cell _ _ k0
  have k1n := (Kp.of_below hb).cell _ _ k1
  have k2n := (Kp.of_below hb).cell _ _ k2
  have k3n := (Kp.of_below hb).cell _ _ k3
  clear hb HB k0 k1 k2 k3
  have HB := HBn
  have k0 := k0n
  have k1 := k1n
  have k2 := k2n
  have k3 := k3n
  clear HBn k0n k1n k2n k3n
  rcases hor with ⟨h0, gp, gq, rfl, hpc, hrc⟩ | ⟨h0, rfl⟩
  · have HPc := hid hpc
    have HRc := hid hrc
    have HC := hid (closeE_zero h0).2.2.2
    clear hpc hrc h0
    clear HRc
    go_wp2_with fail
    go_upto_region 3 with fail
    have hS : Kp w2 w2.drew := Kp.of_below (drawn_below1 w2)
    refine wp_region_held_drew (S := fun w' => Kp w2 w') (by kernel_rfl) hS (fun _ => ?_)
    obtain ⟨W0, hW0⟩ : ∃ X, X = w2.drew := ⟨_, rfl⟩
    have bW0 : Below w2.heap.size w2 W0 := by rw [hW0]; exact drawn_below1 w2
    rw [← hW0] at hS ⊢
    clear hW0
    refine wpAnyH_take (i := 1) (v := .pointer (some ⟨w.heap.size, 0, none⟩)) rfl (by kernel_rfl) (by kernel_rfl) (by kernel_rfl) (fun _ _ _ h => h) (Or.inl ⟨by rfl, fun w' h => by go_simp⟩) hS ?_
    simp only [Act.put, List.setIfInBounds_toArray]
    refine wpAnyH_take (i := 2) (v := .slice ap ps.length cp) rfl (by kernel_rfl) (by kernel_rfl) (by kernel_rfl) (fun _ _ _ h => h) (Or.inl ⟨by rfl, fun w' h => by have hh0 := h.cell _ _ k0; go_simp⟩) hS ?_
    simp only [Act.put]
    refine wpAnyH_take (i := 4) (v := .pointer (some ⟨w.heap.size, 1, none⟩)) rfl (by kernel_rfl) (by kernel_rfl) (by kernel_rfl) (fun _ _ _ h => h) (Or.inl ⟨by rfl, fun w' h => by go_simp⟩) hS ?_
    simp only [Act.put]
    refine wpAnyH_take (i := 5) (v := .slice aq qs.length cq) rfl (by kernel_rfl) (by kernel_rfl) (by kernel_rfl) (fun _ _ _ h => h) (Or.inl ⟨by rfl, fun w' h => by have hh0 := h.cell _ _ k1; go_simp⟩) hS ?_
    simp only [Act.put]
    have HE0 := hid (empty_prs (w := W0) (base := W0.heap.size) (Nat.le_refl _))
    have hbW := below_alloc (w := W0) (.cells #[] 54)
    have HBw := hid (below_step HB.out bW0)
    obtain ⟨v2, X2, hr2, hO2, hg2, _⟩ := join_prs 23 HE0.out ((HP.out.kp (Kp.of_below HBw.out)).kp (Kp.of_below hbW)) hbW.size (by simp; omega)
    rw [List.nil_append] at hO2
    have hb2 : Below W0.heap.size W0 X2 := HE0.out.grown hbW hg2
    obtain ⟨v3, X3, hr3, hO3, hg3, _⟩ := join_prs 23 hO2 ((HQ.out.kp (Kp.of_below HBw.out)).kp (Kp.of_below hb2)) hb2.size (by omega)
    have hb3 : Below W0.heap.size W0 X3 := hO2.grown hb2 hg3
    have HR2 := hid hr2
    have HR3 := hid hr3
    have HO3 := hid hO3.prs
    have HK2 := hid (Kp.of_below hb2)
    have HK3 := hid (Kp.of_below hb3)
    have HB3 := hid hb3
    clear hr2 hr3 hO2 hO3 hg2 hg3 hb2 hb3 HE0 hbW
    refine wpAnyH_ready (rs := [0]) (by kernel_rfl) (by simp) (AllReadyH.cons rfl (fun K hK => ?_) (AllReadyH.nil))
    go_simp
    refine hK.out _ _ (hS.trans (Kp.of_below (below_alloc _))) (fun hS1 => ?_)
    clear hK K
    try simp only [Act.put, List.setIfInBounds_toArray]
    refine wpAnyH_ready (rs := [3]) (by kernel_rfl) (by simp) (AllReadyH.cons rfl (fun K hK => ?_) (AllReadyH.nil))
    refine step_append_runL rfl _ _ _ rfl _ _ rfl rfl HR2.out ?_
    refine hK.out _ _ (hS.trans (HK2.out)) (fun hS2 => ?_)
    clear hK K
    try simp only [Act.put, List.setIfInBounds_toArray]
    refine wpAnyH_ready (rs := [6]) (by kernel_rfl) (by simp) (AllReadyH.cons rfl (fun K hK => ?_) (AllReadyH.nil))
    refine step_append_runL rfl _ _ _ rfl _ _ rfl rfl HR3.out ?_
    refine hK.out _ _ (hS.trans (HK3.out)) (fun hS3 => ?_)
    clear hK K
    try simp only [Act.put]
    refine wpAnyH_take (i := 7) (v := v3) rfl (by kernel_rfl) (by kernel_rfl) (by kernel_rfl) (fun _ _ _ h => h) (Or.inl ⟨by rfl, fun w' h => by go_simp⟩) hS3 ?_
    simp only [Act.put]
    refine wpAnyH_done (by kernel_rfl) ?_ _
    try simp only [List.getElem_toArray, List.getElem_cons_succ, List.getElem_cons_zero, List.setIfInBounds_toArray, List.set_cons_succ, List.set_cons_zero]
    have hb := below_step bW0 HB3.out
    have HBn := hid (below_step HB.out hb)
    have k0n := (Kp.of_below hb).cell _ _ k0
    have k1n := (Kp.of_below hb).cell _ _ k1
    have k2n := (Kp.of_below hb).cell _ _ k2
    have k3n := (Kp.of_below hb).cell _ _ k3
    have HPcn := hid (HPc.out.later hb)
    clear hb HB k0 k1 k2 k3 HPc
    have HB := HBn
    have k0 := k0n
    have k1 := k1n
    have k2 := k2n
    have k3 := k3n
    have HPc := HPcn
    clear HBn k0n k1n k2n k3n HPcn
    clear hS hS1 hS2 hS3 bW0 HR2 HR3 HK2 HK3 HB3 HBw
    go_wp2_with fail
    refine (both11_any sv v3 sig (ps ++ qs) X3 (HS.out.kp (Kp.of_below HB.out)) HO3.out).mono ?_
    intro e w5 hO
    obtain ⟨hb, hor⟩ := hO
    have HBn := hid (below_step HB.out hb)
    have k0n := (Kp.of_below hb).cell _ _ k0
    have k1n := (Kp.of_below hb).cell _ _ k1
    have k2n := (Kp.of_below hb).cell _ _ k2
    have k3n := (Kp.of_below hb).cell _ _ k3
    have HPcn := hid (HPc.out.later hb)
    clear hb HB k0 k1 k2 k3 HPc
    have HB := HBn
    have k0 := k0n
    have k1 := k1n
    have k2 := k2n
    have k3 := k3n
    have HPc := HPcn
    clear HBn k0n k1n k2n k3n HPcn
    rcases hor with ⟨h0, gr, gs, rfl, hpc2, _⟩ | ⟨h0, rfl⟩
    · have HPd := hid hpc2
      have HCd := hid (closeE_zero h0).2.2.2
      clear hpc2 h0
      go_wp2_with fail
      refine (lpoGreater_any sv _ _ _ sig ps a b w5 (HS.out.kp (Kp.of_below HB.out)) HPc.out (H0.out.kp (Kp.of_below HB.out)) (H1.out.kp (Kp.of_below HB.out)) (HT.out.below HB.out) HC.out).mono ?_
      rintro e w6 ⟨rfl, hb⟩
      have HBn := hid (below_step HB.out hb)
      have k0n := (Kp.of_below hb).cell _ _ k0
      have k1n := (Kp.of_below hb).cell _ _ k1
      have k2n := (Kp.of_below hb).cell _ _ k2
      have k3n := (Kp.of_below hb).cell _ _ k3
      have HPcn := hid (HPc.out.later hb)
      have HPdn := hid (HPd.out.later hb)
      clear hb HB k0 k1 k2 k3 HPc HPd
      have HB := HBn
      have k0 := k0n
      have k1 := k1n
      have k2 := k2n
      have k3 := k3n
      have HPc := HPcn
      have HPd := HPdn
      clear HBn k0n k1n k2n k3n HPcn HPdn
      go_wp2_with fail
      refine (lpoGreater_any sv _ _ _ sig (ps ++ qs) a b w6 (HS.out.kp (Kp.of_below HB.out)) HPd.out (H0.out.kp (Kp.of_below HB.out)) (H1.out.kp (Kp.of_below HB.out)) (HT.out.below HB.out) HCd.out).mono ?_
      rintro e w7 ⟨rfl, hb⟩
      have HBn := hid (below_step HB.out hb)
      have k0n := (Kp.of_below hb).cell _ _ k0
      have k1n := (Kp.of_below hb).cell _ _ k1
      have k2n := (Kp.of_below hb).cell _ _ k2
      have k3n := (Kp.of_below hb).cell _ _ k3
      have HPcn := hid (HPc.out.later hb)
      have HPdn := hid (HPd.out.later hb)
      clear hb HB k0 k1 k2 k3 HPc HPd
      have HB := HBn
      have k0 := k0n
      have k1 := k1n
      have k2 := k2n
      have k3 := k3n
      have HPc := HPcn
      have HPd := HPdn
      clear HBn k0n k1n k2n k3n HPcn HPdn
      cases hx : grB sig ps a b with
      | false =>
        generalize grB sig (ps ++ qs) a b = Y
        clear hx
        go_wp2
        go_ret
        exact ⟨rfl, HB.out⟩
      | true =>
        rw [gr_more (fun x hx => List.mem_append_left qs hx) hx]
        clear hx
        go_wp2
        go_ret
        exact ⟨rfl, HB.out⟩
    · clear h0
      go_wp2
      go_ret
      exact ⟨rfl, HB.out⟩
  · clear h0
    go_wp2_with fail
    go_upto_region 3 with fail
    have hS : Kp w2 w2.drew := Kp.of_below (drawn_below1 w2)
    refine wp_region_held_drew (S := fun w' => Kp w2 w') (by kernel_rfl) hS (fun _ => ?_)
    obtain ⟨W0, hW0⟩ : ∃ X, X = w2.drew := ⟨_, rfl⟩
    have bW0 : Below w2.heap.size w2 W0 := by rw [hW0]; exact drawn_below1 w2
    rw [← hW0] at hS ⊢
    clear hW0
    refine wpAnyH_take (i := 1) (v := .pointer (some ⟨w.heap.size, 0, none⟩)) rfl (by kernel_rfl) (by kernel_rfl) (by kernel_rfl) (fun _ _ _ h => h) (Or.inl ⟨by rfl, fun w' h => by go_simp⟩) hS ?_
    simp only [Act.put, List.setIfInBounds_toArray]
    refine wpAnyH_take (i := 2) (v := .slice ap ps.length cp) rfl (by kernel_rfl) (by kernel_rfl) (by kernel_rfl) (fun _ _ _ h => h) (Or.inl ⟨by rfl, fun w' h => by have hh0 := h.cell _ _ k0; go_simp⟩) hS ?_
    simp only [Act.put]
    refine wpAnyH_take (i := 4) (v := .pointer (some ⟨w.heap.size, 1, none⟩)) rfl (by kernel_rfl) (by kernel_rfl) (by kernel_rfl) (fun _ _ _ h => h) (Or.inl ⟨by rfl, fun w' h => by go_simp⟩) hS ?_
    simp only [Act.put]
    refine wpAnyH_take (i := 5) (v := .slice aq qs.length cq) rfl (by kernel_rfl) (by kernel_rfl) (by kernel_rfl) (fun _ _ _ h => h) (Or.inl ⟨by rfl, fun w' h => by have hh0 := h.cell _ _ k1; go_simp⟩) hS ?_
    simp only [Act.put]
    have HE0 := hid (empty_prs (w := W0) (base := W0.heap.size) (Nat.le_refl _))
    have hbW := below_alloc (w := W0) (.cells #[] 54)
    have HBw := hid (below_step HB.out bW0)
    obtain ⟨v2, X2, hr2, hO2, hg2, _⟩ := join_prs 23 HE0.out ((HP.out.kp (Kp.of_below HBw.out)).kp (Kp.of_below hbW)) hbW.size (by simp; omega)
    rw [List.nil_append] at hO2
    have hb2 : Below W0.heap.size W0 X2 := HE0.out.grown hbW hg2
    obtain ⟨v3, X3, hr3, hO3, hg3, _⟩ := join_prs 23 hO2 ((HQ.out.kp (Kp.of_below HBw.out)).kp (Kp.of_below hb2)) hb2.size (by omega)
    have hb3 : Below W0.heap.size W0 X3 := hO2.grown hb2 hg3
    have HR2 := hid hr2
    have HR3 := hid hr3
    have HO3 := hid hO3.prs
    have HK2 := hid (Kp.of_below hb2)
    have HK3 := hid (Kp.of_below hb3)
    have HB3 := hid hb3
    clear hr2 hr3 hO2 hO3 hg2 hg3 hb2 hb3 HE0 hbW
    refine wpAnyH_ready (rs := [0]) (by kernel_rfl) (by simp) (AllReadyH.cons rfl (fun K hK => ?_) (AllReadyH.nil))
    go_simp
    refine hK.out _ _ (hS.trans (Kp.of_below (below_alloc _))) (fun hS1 => ?_)
    clear hK K
    try simp only [Act.put, List.setIfInBounds_toArray]
    refine wpAnyH_ready (rs := [3]) (by kernel_rfl) (by simp) (AllReadyH.cons rfl (fun K hK => ?_) (AllReadyH.nil))
    refine step_append_runL rfl _ _ _ rfl _ _ rfl rfl HR2.out ?_
    refine hK.out _ _ (hS.trans (HK2.out)) (fun hS2 => ?_)
    clear hK K
    try simp only [Act.put, List.setIfInBounds_toArray]
    refine wpAnyH_ready (rs := [6]) (by kernel_rfl) (by simp) (AllReadyH.cons rfl (fun K hK => ?_) (AllReadyH.nil))
    refine step_append_runL rfl _ _ _ rfl _ _ rfl rfl HR3.out ?_
    refine hK.out _ _ (hS.trans (HK3.out)) (fun hS3 => ?_)
    clear hK K
    try simp only [Act.put]
    refine wpAnyH_take (i := 7) (v := v3) rfl (by kernel_rfl) (by kernel_rfl) (by kernel_rfl) (fun _ _ _ h => h) (Or.inl ⟨by rfl, fun w' h => by go_simp⟩) hS3 ?_
    simp only [Act.put]
    refine wpAnyH_done (by kernel_rfl) ?_ _
    try simp only [List.getElem_toArray, List.getElem_cons_succ, List.getElem_cons_zero, List.setIfInBounds_toArray, List.set_cons_succ, List.set_cons_zero]
    have hb := below_step bW0 HB3.out
    have HBn := hid (below_step HB.out hb)
    have k0n := (Kp.of_below hb).cell _ _ k0
    have k1n := (Kp.of_below hb).cell _ _ k1
    have k2n := (Kp.of_below hb).cell _ _ k2
    have k3n := (Kp.of_below hb).cell _ _ k3
    clear hb HB k0 k1 k2 k3
    have HB := HBn
    have k0 := k0n
    have k1 := k1n
    have k2 := k2n
    have k3 := k3n
    clear HBn k0n k1n k2n k3n
    clear hS hS1 hS2 hS3 bW0 HR2 HR3 HK2 HK3 HB3 HBw
    go_wp2_with fail
    refine (both11_any sv v3 sig (ps ++ qs) X3 (HS.out.kp (Kp.of_below HB.out)) HO3.out).mono ?_
    intro e w5 hO
    obtain ⟨hb, hor⟩ := hO
    have HBn := hid (below_step HB.out hb)
    have k0n := (Kp.of_below hb).cell _ _ k0
    have k1n := (Kp.of_below hb).cell _ _ k1
    have k2n := (Kp.of_below hb).cell _ _ k2
    have k3n := (Kp.of_below hb).cell _ _ k3
    clear hb HB k0 k1 k2 k3
    have HB := HBn
    have k0 := k0n
    have k1 := k1n
    have k2 := k2n
    have k3 := k3n
    clear HBn k0n k1n k2n k3n
    rcases hor with ⟨h0, gr, gs, rfl, hpc2, _⟩ | ⟨h0, rfl⟩
    · have HPd := hid hpc2
      have HCd := hid (closeE_zero h0).2.2.2
      clear hpc2 h0
      clear HPd HCd
      go_wp2
      go_ret
      exact ⟨rfl, HB.out⟩
    · clear h0
      go_wp2
      go_ret
      exact ⟨rfl, HB.out⟩

end Go.Proofs.YthjghdpiokpnfaaDoor
