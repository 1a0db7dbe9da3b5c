/- Texts of the proof, one behind the other. -/
import Derived.Test.YtdjmjhlbjcgoiaaGreatDoorOwn20
import Derived.Test.YtdjmjhlbjcgoiaaGreatDoorOwn21
import Derived.Test.YtdjmjhlbjcgoiaaGreatDoorOwn14
import Derived.Test.YtdjmjhlbjcgoiaaGreatDoorOwn6
import Derived.Test.YtdjmjhlbjcgoiaaGreatDoorOwn15
import Derived.Test.YtdjmjhlbjcgoiaaGreatDoorOwn25
import Derived.Test.YtdjmjhlbjcgoiaaGreatDoorOwn12
import Derived.Deep.Upon
import Derived.Test.YtdjmjhlbjcgoiaaGreatDoorOwn18
import Derived.Test.YtdjmjhlbjcgoiaaGreatDoorOwn5
set_option maxRecDepth 1000000
set_option maxHeartbeats 6400000
namespace Go.Proofs.YtdjmjhlbjcgoiaaGreatDoor
open Go.RowKit Go.Maps Go.BigFrame
def flatN (cs : List (Int × Value)) : List Value := cs.flatMap fun c => [.int .i64 c.1, c.2]
def OwN (w : World) (base : Nat) (v : Value) (cs : List (Int × Value)) : Prop := w.ownsRow base 51 2 v cs.length (flatN cs)
theorem flatN_get {cs : List (Int × Value)} : ∀ {i : Nat} {c : Int × Value}, cs[i]? = some c → (flatN cs)[i * 2]? = some (.int .i64 c.1) ∧ (flatN cs)[i * 2 + 1]? = some c.2 := by
 intro i c h
 have hm : ((cs.map fun c => (Value.int .i64 c.1, c.2)) : List (Value × Value))[i]? = some (.int .i64 c.1, c.2) := by rw [zU, h]; rfl
 have h2 := flat2_get hm
 have e : (cs.map fun c => ((Value.int .i64 c.1, c.2) : Value × Value)).flatMap (fun c => [c.1, c.2]) = flatN cs := by
  unfold flatN
  rw [List.flatMap_map]
 rw [e] at h2
 exact h2
def Els (w : World) (cs : List (Int × Value)) (l : List Ip) : Prop := cs.length = l.length ∧ ∀ (i : Nat) c x, cs[i]? = some c → l[i]? = some x → c.1 = x.1 ∧ -9223372036854775808 ≤ x.1 ∧ x.1 ≤ 9223372036854775807 ∧ Ms w c.2 x.2
theorem OwN.ins {w : World} {base : Nat} {v : Value} {cs : List (Int × Value)} {l : List Ip} (h : OwN w base v cs) (he : Els w cs l) : Ins w v l := by
 have hl := he.1
 rcases h.2 with ⟨rfl, hn⟩ | ⟨g, cap, cur, rfl, hb, hg, hcap, hm, hs, ht⟩
 ·exact ⟨none, 0, by rw [← hl, hn], by omega, by simp [maxLen], by omega⟩
 rw [hl]
 refine ⟨_, cap, rfl, by omega, hm, fun _ => ⟨g, 0, rfl, (zL.1 hg).1, ?_⟩⟩
 intro k x hk
 have hlt : k < l.length := (zB.1 hk).1
 have hck : cs[k]? = some cs[k] := zC (by omega)
 obtain ⟨e1, e2, e3, e4⟩ := he.2 k _ x hck hk
 obtain ⟨h1, h2⟩ := flatN_get hck
 refine ⟨e2, e3, ?_, cs[k].2, ?_, e4⟩
 ·rw [Nat.zero_add, World.ownsRow.cellAt h (k * 2) (by omega), h1, e1]
 rw [Nat.zero_add, World.ownsRow.cellAt h (k * 2 + 1) (by omega), h2]
theorem OwN.later {w w' : World} {base : Nat} {v : Value} {cs : List (Int × Value)} (h : OwN w base v cs) (hb : Below w.heap.size w w') : OwN w' base v cs := xAC h hb
theorem info_interp : (Tryz.prog.info? 51).map (fun i => (i.zero, i.size, i.bytes)) = some (some (.agg #[.int .i64 0, .slice none 0 0]), 2, 32) := by kernel_rfl
theorem under_interps : Tryz.prog.underlying 23 = some (.slice 51) := by kernel_rfl
theorem OwN.snoc (ty : TypeId) {w : World} {base : Nat} {v u : Value} {cs : List (Int × Value)} {x : Int} (h : OwN w base v cs) (hb : base ≤ w.heap.size) (hu : u.oneCell' = true) (hlen : (cs.length + 1) * 32 ≤ 140737488355328) :
  ∃ v' w', (Builtin.append_ #[23, 23] ty #[v, .slice (some ⟨w.heap.size, 0, none⟩) 1 1]).run Tryz.prog (w.alloc (.cells #[.int .i64 x, u] 51)) = .ok v' w' ∧ OwN w' base v' (cs ++ [(x, u)]) ∧ (w.alloc (.cells #[.int .i64 x, u] 51)).grownBy w' v.ownBlock := by
 obtain ⟨i1, hi1, hy0, hy1, hy2⟩ := info_parts info_interp
 obtain ⟨v', w', hr, h2, h3, _, _⟩ := run_append_own_at (P := Tryz.prog) (w.alloc (.cells #[.int .i64 x, u] 51)) base 23 ty 51 i1 _ 2 32 under_interps hi1 hy0 hy1 hy2 rfl (by decide) v cs.length (flatN cs) (xAC h (zA _)) ⟨w.heap.size, 0, none⟩ 1 1 [.int .i64 x, u] rfl
  (fun j y hj => by
   rw [Addr.add_lit, Nat.zero_add, cell_of_row _ _ _ _ _ _ (yU _ _)]
   simpa using hj) (fun y hy => by
    simp only [yB, List.not_mem_nil, or_false] at hy
    rcases hy with rfl | rfl
    ·rfl
    exact hu) (by unfold maxLen; omega) (by omega) (Nat.le_trans hb (zA _).size)
 refine ⟨v', w', hr, ?_, h3⟩
 unfold OwN
 have e : flatN (cs ++ [(x, u)]) = flatN cs ++ [.int .i64 x, u] := by simp [flatN]
 rw [e, zF]
 exact h2
theorem OwN.snocAt (ty : TypeId) {w : World} {base g : Nat} {v u : Value} {cs : List (Int × Value)} {x : Int} (h : OwN w base v cs) (hz : w.cell? ⟨g, 0, none⟩ = some (.int .i64 x) ∧ w.cell? ⟨g, 1, none⟩ = some u) (hb : base ≤ w.heap.size) (hu : u.oneCell' = true) (hlen : (cs.length + 1) * 32 ≤ 140737488355328) :
  ∃ v' w', (Builtin.append_ #[23, 23] ty #[v, .slice (some ⟨g, 0, none⟩) 1 1]).run Tryz.prog w = .ok v' w' ∧ OwN w' base v' (cs ++ [(x, u)]) ∧ w.grownBy w' v.ownBlock := by
 obtain ⟨i1, hi1, hy0, hy1, hy2⟩ := info_parts info_interp
 obtain ⟨v', w', hr, h2, h3, _, _⟩ := run_append_own_at (P := Tryz.prog) w base 23 ty 51 i1 _ 2 32 under_interps hi1 hy0 hy1 hy2 rfl (by decide) v cs.length (flatN cs) h ⟨g, 0, none⟩ 1 1 [.int .i64 x, u] rfl
  (fun j y hj => by
   rw [Addr.add_lit, Nat.zero_add]
   match j, hj with
   | 0, hj => simp at hj; subst hj; exact hz.1
   | 1, hj => simp at hj; subst hj; exact hz.2
   | j + 2, hj => simp at hj) (fun y hy => by
    simp only [yB, List.not_mem_nil, or_false] at hy
    rcases hy with rfl | rfl
    ·rfl
    exact hu) (by unfold maxLen; omega) (by omega) hb
 refine ⟨v', w', hr, ?_, h3⟩
 unfold OwN
 have e : flatN (cs ++ [(x, u)]) = flatN cs ++ [.int .i64 x, u] := by simp [flatN]
 rw [e, zF]
 exact h2
theorem OwN.low {w : World} {base g n cap : Nat} {cs : List (Int × Value)} (h : OwN w base (.slice (some ⟨g, 0, none⟩) n cap) cs) : base < w.heap.size := by
 rcases h.2 with ⟨hv, _⟩ | ⟨g', _, _, hv, hb, hg, _⟩
 ·cases hv
 exact Nat.lt_of_le_of_lt hb (zL.1 hg).1
theorem ow_new1 {w : World} {base : Nat} (hb : base ≤ w.heap.size) : Ow (w.alloc (.cells #[.int .u32 1] 38)) base (.slice (some ⟨w.heap.size, 0, none⟩) 1 1) [1] :=
 ⟨fun x hx => by simp at hx; omega, rfl, .inr ⟨w.heap.size, 1, _, rfl, hb, yU _ _, Nat.le_refl _, by unfold maxLen; omega, rfl, rfl⟩⟩
theorem owI_new1 {w : World} {base : Nat} (hb : base ≤ w.heap.size) : OwI (w.alloc (.cells #[.int .i64 1] 3)) base (.slice (some ⟨w.heap.size, 0, none⟩) 1 1) [1] :=
 ⟨fun _ x hx => by have := zD hx; simp at this; omega, rfl, .inr ⟨w.heap.size, 1, _, rfl, hb, yU _ _, Nat.le_refl _, by unfold maxLen; omega, rfl, rfl⟩⟩
theorem om_new1 {w : World} {base : Nat} {cv ev : Value} {m : Mn} (hb : base ≤ w.heap.size) (h1 : Ow w base cv m.1) (h2 : OwI w base ev m.2) : OM (w.alloc (.cells #[cv, ev] 37)) base (.slice (some ⟨w.heap.size, 0, none⟩) 1 1) [m] := by
 refine ⟨[(cv, ev)], rfl, fun i c x g1 g2 => ?_, rfl, .inr ⟨w.heap.size, 1, _, rfl, hb, yU _ _, Nat.le_refl _, by unfold maxLen; omega, rfl, rfl⟩⟩
 have hi : i = 0 := by
  have := (zB.1 g1).1
  simpa using this
 subst hi
 simp at g1 g2
 subst g1
 subst g2
 exact ⟨h1.since (zA _), h2.later (zA _)⟩
theorem xAO {P : Program} {ops : Array Oper} {o : Oper} {a : Act} {w w' : World} {v' : Value} {K : Act → World → Prop} {Q : Exit → Act → World → Prop} {E : Prop} (hgd : Region.wanted o (yielded ops a.tmps) = true) (s x : Operand) (t : TypeId)
  (ho : o.op = .call { callee := .builtin .append, args := #[s, x], argTypes := #[t, t] }) (v u : Value) (hs : a.eval s = v) (hx : a.eval x = u)
  (hr : (Builtin.append_ #[t, t] o.type #[v, u]).run P w = .ok v' w') (hK : K (a.put o.dst v') w') :
  if Region.wanted o (yielded ops a.tmps) = true then Oper.wp P o a w K Q else E := by
 rw [if_pos hgd]
 unfold Oper.wp execOp
 simp only [ho, resolve, invoke, builtin, Sem.run_bind, Sem.run_pure, Result.andThen_ok, List.map_toArray, yW, List.map_nil, hs, hx, hr]
 exact hK
theorem OwN.cut {w : World} {base : Nat} {ao : Option Addr} {n cap k : Nat} {cs : List (Int × Value)} (h : OwN w base (.slice ao n cap) cs) (hk : k ≤ cs.length) (h0 : 0 < cs.length) : OwN w base (.slice ao k cap) (cs.take k) := by
 have h1 := h.1
 have e : flatN (cs.take k) = (flatN cs).take (k * 2) := by
  clear h h1 h0
  induction cs generalizing k with
  | nil => simp at hk; subst hk; rfl
  | cons c r ih =>
   cases k with
   | zero => rfl
   | succ k =>
    have := ih (k := k) (by simpa using hk)
    show flatN (c :: r.take k) = _
    have e1 : ∀ s : List (Int × Value), flatN (c :: s) = .int .i64 c.1 :: c.2 :: flatN s := fun s => rfl
    rw [e1, e1, this, show (k + 1) * 2 = k * 2 + 1 + 1 by omega, List.take_succ_cons, List.take_succ_cons]
 have hkl : (cs.take k).length = k := by rw [zH]; omega
 unfold OwN
 rw [hkl, e]
 refine ⟨by rw [zH]; omega, ?_⟩
 rcases h.2 with ⟨hv, hn⟩ | ⟨g, cap', cur, hv, hb, hg, hc, hm, hs, ht⟩
 ·omega
 simp only [zZ] at hv
 obtain ⟨rfl, rfl, rfl⟩ := hv
 refine .inr ⟨g, cap, cur, rfl, hb, hg, by omega, hm, hs, ?_⟩
 rw [← ht, List.take_take, Nat.min_eq_left (by omega)]
theorem xBA {w : World} {o : Obj} {g : Nat} (h : g = w.heap.size) : (w.alloc o).heap[g]? = some o := by
 subst h
 exact yU _ _
theorem OM.one {w : World} {base : Nat} {v : Value} {p : List Mn} (h : OM w base v p) : v.oneCell' = true := by
 obtain ⟨a, c, rfl⟩ := h.slice
 rfl
theorem OM.grownN {w w' : World} {base b : Nat} {u v : Value} {p : List Mn} {ds : List (Int × Value)} (h : OM w base u p) (ho : OwN w b v ds) (hg : w.grownBy w' v.ownBlock) : OM w' base u p := by
 rcases ho.2 with ⟨rfl, _⟩ | ⟨g, cap, cur, rfl, _, hgb, _⟩
 ·exact h.held hg fun _ _ _ u _ _ _ => by cases hv : u.ownBlock <;> simp [Value.ownBlock]
 exact h.heldAt hg hgb (by decide) (by decide) (by decide)
theorem OwN.cellsN {w : World} {base g n cap : Nat} {cs : List (Int × Value)} (h : OwN w base (.slice (some ⟨g, 0, none⟩) n cap) cs) {k : Nat} {c : Int × Value} (hk : cs[k]? = some c) : w.cell? ⟨g, k * 2, none⟩ = some (.int .i64 c.1) ∧ w.cell? ⟨g, k * 2 + 1, none⟩ = some c.2 := by
 have hlt := (zB.1 hk).1
 have hn : n = cs.length := by
  rcases h.2 with ⟨hv, _⟩ | ⟨_, _, _, hv, _⟩
  ·cases hv
  simp only [zZ] at hv
  exact hv.2.1
 subst hn
 obtain ⟨h1, h2⟩ := flatN_get hk
 exact ⟨by rw [World.ownsRow.cellAt h (k * 2) (by omega), h1], by rw [World.ownsRow.cellAt h (k * 2 + 1) (by omega), h2]⟩
theorem Els.snoc {w : World} {cs : List (Int × Value)} {l : List Ip} {c : Int × Value} {x : Ip} (h : Els w cs l) (h1 : c.1 = x.1) (h2 : -9223372036854775808 ≤ x.1) (h3 : x.1 ≤ 9223372036854775807) (h4 : Ms w c.2 x.2) : Els w (cs ++ [c]) (l ++ [x]) := by
 refine ⟨by rw [zF, zF, h.1]; rfl, fun i d y g1 g2 => ?_⟩
 by_cases hi : i < cs.length
 ·rw [zN hi] at g1
  rw [zN (by rw [← h.1]; exact hi)] at g2
  exact h.2 i d y g1 g2
 rw [zM (by omega)] at g1
 rw [zM (by rw [← h.1]; omega), ← h.1] at g2
 have e0 : i - cs.length = 0 := by
  have := (zB.1 g1).1
  simp at this
  omega
 rw [e0] at g1 g2
 simp at g1 g2
 subst g1
 subst g2
 exact ⟨h1, h2, h3, h4⟩
def worthL (n : Nat) : List Ip := [(0, [([1], [])]), (1, [([1], []), ([1], [1])]), (2, [([1], [0, 1]), ([n], [1])])]
def ElsO (w : World) (base : Nat) (cs : List (Int × Value)) (l : List Ip) : Prop := cs.length = l.length ∧ ∀ (i : Nat) c x, cs[i]? = some c → l[i]? = some x → c.1 = x.1 ∧ -9223372036854775808 ≤ x.1 ∧ x.1 ≤ 9223372036854775807 ∧ OM w base c.2 x.2
theorem ElsO.els {w : World} {base : Nat} {cs : List (Int × Value)} {l : List Ip} (h : ElsO w base cs l) : Els w cs l := ⟨h.1, fun i c x h1 h2 => by
 obtain ⟨a, b, d, e⟩ := h.2 i c x h1 h2
 exact ⟨a, b, d, e.ms⟩⟩
theorem ElsO.later {w w' : World} {base : Nat} {cs : List (Int × Value)} {l : List Ip} (h : ElsO w base cs l) (hb : Below w.heap.size w w') : ElsO w' base cs l := ⟨h.1, fun i c x h1 h2 => by
 obtain ⟨a, b, d, e⟩ := h.2 i c x h1 h2
 exact ⟨a, b, d, e.later hb⟩⟩
theorem ElsO.heldAt {w w' : World} {base g : Nat} {cs : List (Int × Value)} {l : List Ip} {vs : Array Value} {fr : Nat × Nat} (h : ElsO w base cs l) (hg : w.grownBy w' (some g)) (hb : w.heap[g]? = some (.cells vs 51 fr)) : ElsO w' base cs l := ⟨h.1, fun i c x h1 h2 => by
 obtain ⟨a, b, d, e⟩ := h.2 i c x h1 h2
 exact ⟨a, b, d, e.heldAt hg hb (by decide) (by decide) (by decide)⟩⟩
theorem ElsO.grown {w w' : World} {base b : Nat} {v : Value} {cs ds : List (Int × Value)} {l : List Ip} (h : ElsO w base cs l) (ho : OwN w b v ds) (hg : w.grownBy w' v.ownBlock) : ElsO w' base cs l := by
 rcases ho.2 with ⟨rfl, _⟩ | ⟨g, cap, cur, rfl, _, hgb, _⟩
 ·refine ⟨h.1, fun i c x h1 h2 => ?_⟩
  obtain ⟨a, b, d, e⟩ := h.2 i c x h1 h2
  exact ⟨a, b, d, e.held hg fun _ _ _ u _ _ _ => by cases hv : u.ownBlock <;> simp [Value.ownBlock]⟩
 exact h.heldAt hg hgb
theorem ElsO.take {w : World} {base : Nat} {cs : List (Int × Value)} {l : List Ip} (h : ElsO w base cs l) (k : Nat) : ElsO w base (cs.take k) (l.take k) := by
 refine ⟨by rw [zH, zH, h.1], fun i c x h1 h2 => ?_⟩
 rw [List.getElem?_take] at h1 h2
 by_cases hi : i < k
 ·rw [if_pos hi] at h1 h2
  exact h.2 i c x h1 h2
 rw [if_neg hi] at h1
 cases h1
theorem xBF {w : World} {o o' : Obj} {g : Nat} (h : w.heap[g]? = some o') : (w.alloc o).heap[g]? = some o' := by
 rw [(zA (w := w) o).block g (zL.1 h).1]
 exact h
theorem zi_of {xs : List Int} (h : ∀ x ∈ xs, -9223372036854775808 ≤ x ∧ x ≤ 9223372036854775807) : ZI xs := fun _ x hx => h x (zD hx)
theorem zi_nil : ZI [] := fun _ x hx => by simp at hx
theorem xAH (n : Nat) (w : World) (hn : n < 4294967296) :
  Calls Tryz.prog 37 #[.int .u32 (n : Int)] w fun e w' => ∃ g v0 v1 v2, e = .returned (.slice (some ⟨g, 0, none⟩) 3 3) ∧ OwN w' w.heap.size (.slice (some ⟨g, 0, none⟩) 3 3) [(0, v0), (1, v1), (2, v2)] ∧ ElsO w' w.heap.size [(0, v0), (1, v1), (2, v2)] (worthL n) ∧ Below w.heap.size w w' := by
 go_enter Tryz.func37, Tryz.ntmps37
 go_wp2
 go_ret
 generalize hW : World.alloc _ _ = W
 have hb : Below w.heap.size w W := by
  rw [← hW]
  repeat (first | exact zA _ | refine zS ?_ (zA _))
 have s0 : Ow W w.heap.size (.slice (some ⟨w.heap.size, 0, none⟩) 1 1) [1] := ⟨fun y hy => by simp at hy; omega, rfl, .inr ⟨_, 1, #[.int .u32 (1 : Nat)], rfl, by omega, (by rw [← hW]; repeat (first | (refine xBA ?_; simp; done) | refine xBF ?_)), Nat.le_refl _, by unfold maxLen; omega, rfl, rfl⟩⟩
 have s2 : Ow W w.heap.size (.slice (some ⟨w.heap.size + 2, 0, none⟩) 1 1) [1] := ⟨fun y hy => by simp at hy; omega, rfl, .inr ⟨_, 1, #[.int .u32 (1 : Nat)], rfl, by omega, (by rw [← hW]; repeat (first | (refine xBA ?_; simp; done) | refine xBF ?_)), Nat.le_refl _, by unfold maxLen; omega, rfl, rfl⟩⟩
 have s5 : Ow W w.heap.size (.slice (some ⟨w.heap.size + 5, 0, none⟩) 1 1) [1] := ⟨fun y hy => by simp at hy; omega, rfl, .inr ⟨_, 1, #[.int .u32 (1 : Nat)], rfl, by omega, (by rw [← hW]; repeat (first | (refine xBA ?_; simp; done) | refine xBF ?_)), Nat.le_refl _, by unfold maxLen; omega, rfl, rfl⟩⟩
 have s10 : Ow W w.heap.size (.slice (some ⟨w.heap.size + 10, 0, none⟩) 1 1) [n] := ⟨fun y hy => by simp at hy; omega, rfl, .inr ⟨_, 1, #[.int .u32 (n : Nat)], rfl, by omega, (by rw [← hW]; repeat (first | (refine xBA ?_; simp; done) | refine xBF ?_)), Nat.le_refl _, by unfold maxLen; omega, rfl, rfl⟩⟩
 have i3 : OwI W w.heap.size (.slice (some ⟨w.heap.size + 3, 0, none⟩) 1 1) [1] := ⟨zi_of (by decide), rfl, .inr ⟨_, 1, #[.int .i64 1], rfl, by omega, (by rw [← hW]; repeat (first | (refine xBA ?_; simp; done) | refine xBF ?_)), Nat.le_refl _, by unfold maxLen; omega, rfl, rfl⟩⟩
 have i6 : OwI W w.heap.size (.slice (some ⟨w.heap.size + 6, 0, none⟩) 2 2) [0, 1] := ⟨zi_of (by decide), rfl, .inr ⟨_, 2, #[.int .i64 0, .int .i64 1], rfl, by omega, (by rw [← hW]; repeat (first | (refine xBA ?_; simp; done) | refine xBF ?_)), Nat.le_refl _, by unfold maxLen; omega, rfl, rfl⟩⟩
 have i11 : OwI W w.heap.size (.slice (some ⟨w.heap.size + 11, 0, none⟩) 1 1) [1] := ⟨zi_of (by decide), rfl, .inr ⟨_, 1, #[.int .i64 1], rfl, by omega, (by rw [← hW]; repeat (first | (refine xBA ?_; simp; done) | refine xBF ?_)), Nat.le_refl _, by unfold maxLen; omega, rfl, rfl⟩⟩
 have m8 : OM W w.heap.size (.slice (some ⟨w.heap.size + 8, 0, none⟩) 1 1) [([1], [])] := by
  refine ⟨[(.slice (some ⟨w.heap.size, 0, none⟩) 1 1, .slice none 0 0)], rfl, fun i c m h1 h2 => ?_, rfl, .inr ⟨_, 1, #[.slice (some ⟨w.heap.size, 0, none⟩) 1 1, .slice none 0 0], rfl, by omega, (by rw [← hW]; repeat (first | (refine xBA ?_; simp; done) | refine xBF ?_)), Nat.le_refl _, by unfold maxLen; omega, rfl, rfl⟩⟩
  match i, h1, h2 with
  | 0, h1, h2 =>
   simp at h1 h2
   subst h1
   subst h2
   exact ⟨s0, ⟨zi_nil, World.ownsRow_nil _ _ _ _⟩⟩
  | i + 1, h1, h2 => simp at h1
 have m9 : OM W w.heap.size (.slice (some ⟨w.heap.size + 9, 0, none⟩) 2 2) [([1], []), ([1], [1])] := by
  refine ⟨[(.slice (some ⟨w.heap.size, 0, none⟩) 1 1, .slice none 0 0), (.slice (some ⟨w.heap.size + 2, 0, none⟩) 1 1, .slice (some ⟨w.heap.size + 3, 0, none⟩) 1 1)], rfl, fun i c m h1 h2 => ?_, rfl, .inr ⟨_, 2, #[.slice (some ⟨w.heap.size, 0, none⟩) 1 1, .slice none 0 0, .slice (some ⟨w.heap.size + 2, 0, none⟩) 1 1, .slice (some ⟨w.heap.size + 3, 0, none⟩) 1 1], rfl, by omega, (by rw [← hW]; repeat (first | (refine xBA ?_; simp; done) | refine xBF ?_)), Nat.le_refl _, by unfold maxLen; omega, rfl, rfl⟩⟩
  match i, h1, h2 with
  | 0, h1, h2 =>
   simp at h1 h2
   subst h1
   subst h2
   exact ⟨s0, ⟨zi_nil, World.ownsRow_nil _ _ _ _⟩⟩
  | 1, h1, h2 =>
   simp at h1 h2
   subst h1
   subst h2
   exact ⟨s2, i3⟩
  | i + 2, h1, h2 => simp at h1
 have m12 : OM W w.heap.size (.slice (some ⟨w.heap.size + 12, 0, none⟩) 2 2) [([1], [0, 1]), ([n], [1])] := by
  refine ⟨[(.slice (some ⟨w.heap.size + 5, 0, none⟩) 1 1, .slice (some ⟨w.heap.size + 6, 0, none⟩) 2 2), (.slice (some ⟨w.heap.size + 10, 0, none⟩) 1 1, .slice (some ⟨w.heap.size + 11, 0, none⟩) 1 1)], rfl, fun i c m h1 h2 => ?_, rfl, .inr ⟨_, 2, #[.slice (some ⟨w.heap.size + 5, 0, none⟩) 1 1, .slice (some ⟨w.heap.size + 6, 0, none⟩) 2 2, .slice (some ⟨w.heap.size + 10, 0, none⟩) 1 1, .slice (some ⟨w.heap.size + 11, 0, none⟩) 1 1], rfl, by omega, (by rw [← hW]; repeat (first | (refine xBA ?_; simp; done) | refine xBF ?_)), Nat.le_refl _, by unfold maxLen; omega, rfl, rfl⟩⟩
  match i, h1, h2 with
  | 0, h1, h2 =>
   simp at h1 h2
   subst h1
   subst h2
   exact ⟨s5, i6⟩
  | 1, h1, h2 =>
   simp at h1 h2
   subst h1
   subst h2
   exact ⟨s10, i11⟩
  | i + 2, h1, h2 => simp at h1
 have hG : W.heap[w.heap.size + 13]? = some (.cells #[.int .i64 0, .slice (some ⟨w.heap.size + 8, 0, none⟩) 1 1, .int .i64 1, .slice (some ⟨w.heap.size + 9, 0, none⟩) 2 2, .int .i64 2, .slice (some ⟨w.heap.size + 12, 0, none⟩) 2 2] 51 (0, 0)) := by
  rw [← hW]
  exact xBA (by simp)
 clear hW
 refine ⟨w.heap.size + 13, .slice (some ⟨w.heap.size + 8, 0, none⟩) 1 1, .slice (some ⟨w.heap.size + 9, 0, none⟩) 2 2, .slice (some ⟨w.heap.size + 12, 0, none⟩) 2 2, rfl, ⟨rfl, .inr ⟨_, 3, _, rfl, by omega, hG, Nat.le_refl _, by unfold maxLen; omega, rfl, rfl⟩⟩, ⟨rfl, fun i c x h1 h2 => ?_⟩, hb⟩
 match i, h1, h2 with
 | 0, h1, h2 =>
  simp [worthL] at h1 h2
  subst h1
  subst h2
  exact ⟨rfl, by decide, by decide, m8⟩
 | 1, h1, h2 =>
  simp [worthL] at h1 h2
  subst h1
  subst h2
  exact ⟨rfl, by decide, by decide, m9⟩
 | 2, h1, h2 =>
  simp [worthL] at h1 h2
  subst h1
  subst h2
  exact ⟨rfl, (by show (-9223372036854775808 : Int) ≤ 2; omega), (by show (2 : Int) ≤ 9223372036854775807; omega), m12⟩
 | i + 3, h1, h2 => simp at h1
theorem sums12_any (w : World) :
  Calls Tryz.prog 36 #[] w fun e w' => ∃ sv rv, e = .returned (.agg #[sv, rv]) ∧ Sg w' sv sumS ∧ RU w' rv [sumR0, sumR1] ∧ Below w.heap.size w w' := by
 go_enter Tryz.func36, Tryz.ntmps36
 go_wp2
 generalize hW : World.alloc _ _ = W
 have hsz : W.heap.size = w.heap.size + 7 := by rw [← hW]; simp
 have hb : Below w.heap.size w W := by
  rw [← hW]
  exact zS (zS (zS (zS (zS (zS (zA _) (zA _)) (zA _)) (zA _)) (zA _)) (zA _)) (zA _)
 have k0 : W.cell? ⟨w.heap.size, 0, none⟩ = some (.slice (some ⟨w.heap.size + 1, 0, none⟩) 3 3) := by rw [← hW]; repeat (first | (refine xAQ ?_ rfl; simp; done) | refine xAP ?_)
 have k1 : W.cell? ⟨w.heap.size, 1, none⟩ = some (.slice (some ⟨w.heap.size + 6, 0, none⟩) 2 2) := by rw [← hW]; repeat (first | (refine xAQ ?_ rfl; simp; done) | refine xAP ?_)
 have hS : Sg W (.slice (some ⟨w.heap.size + 1, 0, none⟩) 3 3) sumS := by
  refine sg_lit (p := sumS) (by omega) (by decide) ⟨⟨by decide, by decide, by decide, ?_, ?_⟩, ⟨by decide, by decide, by decide, ?_, ?_⟩, ⟨by decide, by decide, by decide, ?_, ?_⟩, trivial⟩ <;> (rw [← hW]; repeat (first | (refine xAQ ?_ rfl; simp; done) | refine xAP ?_))
 have i0 : Is W (.slice (some ⟨w.heap.size + 2, 0, none⟩) 3 3) [2, 0, -1] := by
  refine is_lit (p := [2, 0, -1]) (by omega) (by decide) ⟨ei (by omega) (by omega) ?_, ei (by omega) (by omega) ?_, ei (by omega) (by omega) ?_, trivial⟩ <;> (rw [← hW]; repeat (first | (refine xAQ ?_ rfl; simp; done) | refine xAP ?_))
 have i1 : Is W (.slice (some ⟨w.heap.size + 3, 0, none⟩) 1 1) [-1] := by
  refine is_lit (p := [-1]) (by omega) (by decide) ⟨ei (by omega) (by omega) ?_, trivial⟩ <;> (rw [← hW]; repeat (first | (refine xAQ ?_ rfl; simp; done) | refine xAP ?_))
 have i2 : Is W (.slice (some ⟨w.heap.size + 4, 0, none⟩) 4 4) [2, 1, -1, -2] := by
  refine is_lit (p := [2, 1, -1, -2]) (by omega) (by decide) ⟨ei (by omega) (by omega) ?_, ei (by omega) (by omega) ?_, ei (by omega) (by omega) ?_, ei (by omega) (by omega) ?_, trivial⟩ <;> (rw [← hW]; repeat (first | (refine xAQ ?_ rfl; simp; done) | refine xAP ?_))
 have i3 : Is W (.slice (some ⟨w.heap.size + 5, 0, none⟩) 4 4) [1, 2, -1, -2] := by
  refine is_lit (p := [1, 2, -1, -2]) (by omega) (by decide) ⟨ei (by omega) (by omega) ?_, ei (by omega) (by omega) ?_, ei (by omega) (by omega) ?_, ei (by omega) (by omega) ?_, trivial⟩ <;> (rw [← hW]; repeat (first | (refine xAQ ?_ rfl; simp; done) | refine xAP ?_))
 have hR : W.heap[w.heap.size + 6]? = some (.cells #[.slice (some ⟨w.heap.size + 2, 0, none⟩) 3 3, .slice (some ⟨w.heap.size + 3, 0, none⟩) 1 1, .slice (some ⟨w.heap.size + 4, 0, none⟩) 4 4, .slice (some ⟨w.heap.size + 5, 0, none⟩) 4 4] 41) := by
  rw [← hW]
  exact heap_newg8 (by simp)
 have hRU : RU W (.slice (some ⟨w.heap.size + 6, 0, none⟩) 2 2) [sumR0, sumR1] := ru_lit8 (cell_of_row _ _ _ _ _ _ hR) (cell_of_row _ _ _ _ _ _ hR) (cell_of_row _ _ _ _ _ _ hR) (cell_of_row _ _ _ _ _ _ hR) i0 i1 i2 i3 (by decide) (by decide) (by decide) (by decide)
 clear hW
 refine bodyPost_ret (results_one8 rfl rfl ?_) rfl ⟨_, _, rfl, hS, hRU, hb⟩
 go_simp
theorem is_tail12 {w : World} {g o y c : Nat} {t : List Int} (h : Is w (.slice (some ⟨g, o, none⟩) t.length c) t) (hy : y ≤ t.length) (hc : t.length ≤ c) : Is w (.slice (if c = y then some ⟨g, o, none⟩ else some ⟨g, o + y, none⟩) (t.length - y) (c - y)) (t.drop y) := by
 by_cases h1 : y < t.length
 ·rw [if_neg (by omega)]
  have h9 := h.mid (k := y) (m := t.length - y) h1 (by omega)
  rw [zO (by rw [zI]; exact Nat.le_refl _)] at h9
  exact h9
 have e : t.drop y = [] := zP (by omega)
 rw [e, show t.length - y = 0 by omega]
 obtain ⟨_, _, hv, _, hm, _⟩ := h
 simp only [zZ] at hv
 exact Row.nil (by have := hv.2.2; omega)
theorem var12 {sig : List Sy} {c : Int} {r : List Int} (h : rowE sig (c :: r) = 0) (hc : c < 0) : r = [] := by
 have h1 := xAI.1 h
 rw [xAJ] at h1
 cases hd : codeD sig c with
 | none => rw [hd] at h1; simp at h1
 | some e =>
  rw [hd] at h1
  have := codeD_neg hd hc
  subst this
  simp only at h1
  rw [if_pos (by omega)] at h1
  have := congrArg Prod.fst h1
  simp at this
  exact zE (by omega)
theorem kids12 {sig : List Sy} (ha : ArOk sig) {c : Int} {r : List Int} (h : rowE sig (c :: r) = 0) (hc : ¬ c < 0) : c.toNat < sig.length ∧ ∃ us : List (List Int), us.length = arN sig c ∧ r = us.flatten ∧ ∀ u ∈ us, rowE sig u = 0 := by
 have h1 := xAI.1 h
 rw [xAJ] at h1
 cases hd : codeD sig c with
 | none => rw [hd] at h1; simp at h1
 | some e =>
  rw [hd] at h1
  simp only at h1
  obtain ⟨k1, k2⟩ := codeD_ar ha hd hc
  refine ⟨k2, ?_⟩
  by_cases h0 : 1 + e = 0
  ·rw [if_pos h0] at h1
   have hl : r.length = 0 := by
    have := congrArg Prod.fst h1
    simp at this
    omega
   exact ⟨[], by simp; omega, by rw [zE hl]; rfl, fun u hu => by cases hu⟩
  rw [if_neg h0, show (1 : Int) + e = (arN sig c : Int) by omega] at h1
  exact xEH ha _ r (0 + 1) (by omega) (by rw [h1]; simp only [zG, Prod.mk.injEq, and_true]; omega)
theorem true_kp (w : World) : Kp w (onlyY (fun _ => true) w) := only_old fun _ _ => rfl
def FitN (b : Nat) (l : List Ip) : Prop := l.length * 32 ≤ b ∧ ∀ x ∈ l, Fit b x.2
theorem sameNat12_any (v u : Value) (xs ys : List Nat) (w : World) (h : Sl w v xs) (h' : Sl w u ys) :
  Calls Tryz.prog 31 #[v, u] w fun e w' => e = .returned (.bool (decide (xs = ys))) ∧ ∃ n, w' = w.drewN n := by
 obtain ⟨ao, cap, rfl, hao, hca, hcl⟩ := h.flat
 obtain ⟨bo, cap', rfl, hbo, hcb, hcl'⟩ := h'.flat
 unfold maxLen at hca hcb
 clear h h'
 by_cases hl : xs.length = ys.length
 ·have hle : ((xs.length : Int) != ys.length) = false := by simp; omega
  go_enter Tryz.func31, Tryz.ntmps31
  go_wp2
  go_loopw [5] (fun i wr => ∃ k : Nat, k ≤ xs.length ∧ i = .int .i64 k ∧ xs.take k = ys.take k ∧ ∃ n, wr = w.drewN n) (fun i _ => xs.length - (intOf i).toNat)
  case atStart => exact ⟨0, Nat.zero_le _, rfl, rfl, 0, rfl⟩
  case round =>
   obtain ⟨k, hk, rfl, ht, n, rfl⟩ := hrel
   have HT : Hid (xs.take k = ys.take k) := ht
   clear ht
   by_cases hlt : k < xs.length
   ·obtain ⟨g, off, x, rfl, hx1, hx2, hx3⟩ := hcl k hlt
    obtain ⟨g', off', y, rfl, hy1, hy2, hy3⟩ := hcl' k (by omega)
    have HX : Hid (xs[k]? = some x) := hx1
    have HY : Hid (ys[k]? = some y) := hy1
    have hlt' : k < ys.length := by omega
    clear hx1 hy1 hcl hcl'
    by_cases hxy : x = y
    ·subst hxy
     have hxx : ((x : Int) != x) = false := by simp
     go_wp2
     go_quiet (fail)
     go_wp2
     go_roundw
     case rel => exact ⟨k + 1, by omega, by go_num, by rw [xAY HX.out, xAY HY.out, HT.out], _, rfl⟩
     case measure => simp [intOf]; omega
    have hne : ((x : Int) != y) = true := by rw [bne_iff_ne]; omega
    go_wp2
    go_quiet (fail)
    go_wp2
    go_ret
    exact ⟨ret1b (by rw [eq_comm, decide_eq_false_iff_not]; rintro rfl; have := HX.out.symm.trans HY.out; simp at this; exact hxy this), _, World.drewN_drewN _ _ _⟩
   have hk' : k = xs.length := by omega
   go_wp2
   go_ret
   refine ⟨ret1b ?_, n, rfl⟩
   have := HT.out
   rw [zO (by omega), zO (by omega)] at this
   simp [this]
 have hle : ((xs.length : Int) != ys.length) = true := by rw [bne_iff_ne]; omega
 go_enter Tryz.func31, Tryz.ntmps31
 go_wp2
 go_ret
 exact ⟨ret1b (by rw [eq_comm, decide_eq_false_iff_not]; rintro rfl; exact hl rfl), 0, rfl⟩
theorem xEB {w wr : World} {n : Nat} (h : wr = w.drewN n) (m : Nat) : ∃ k, wr.drewN m = w.drewN k := ⟨n + m, by rw [h, World.drewN_drewN]⟩
theorem xET (B : Bool) (v u : Value) (xs ys : List Nat) (w : World) (hB : decide (xs = ys) = B) (h : Sl w v xs) (h' : Sl w u ys) :
  Calls Tryz.prog 31 #[v, u] w fun e w' => e = .returned (.bool B) ∧ ∃ n, w' = w.drewN n := by
 subst hB
 exact sameNat12_any v u xs ys w h h'
theorem same12_any (v u : Value) (p q : List Mn) (w : World) (h : Ms w v p) (h' : Ms w u q) :
  Calls Tryz.prog 18 #[v, u] w fun e w' => e = .returned (.bool (decide (p = q))) ∧ ∃ n, w' = w.drewN n := by
 obtain ⟨ao, cap, rfl, hao, hca, q0⟩ := Row.flat h
 obtain ⟨bo, cap', rfl, hbo, hcb, q0'⟩ := Row.flat h'
 unfold maxLen at hca hcb
 have HP : Hid (Ms w (.slice ao p.length cap) p) := h
 have HQ : Hid (Ms w (.slice bo q.length cap') q) := h'
 clear h h' q0 q0'
 by_cases hl : p.length = q.length
 ·have hle : ((p.length : Int) != q.length) = false := by simp; omega
  go_enter Tryz.func18, Tryz.ntmps18
  go_wp2
  go_loopw [5] (fun i wr => ∃ k : Nat, k ≤ p.length ∧ i = .int .i64 k ∧ p.take k = q.take k ∧ ∃ n, wr = w.drewN n) (fun i _ => p.length - (intOf i).toNat)
  case atStart => exact ⟨0, Nat.zero_le _, rfl, rfl, 0, rfl⟩
  case round =>
   obtain ⟨k, hk, rfl, ht, n, hw⟩ := hrel
   have HT : Hid (p.take k = q.take k) := ht
   have HW : Hid (wr = w.drewN n) := hw
   have hkp : Kp w wr := by rw [hw]; exact Kp.drewN _ _
   clear ht hw
   by_cases hlt : k < p.length
   ·have hlt' : k < q.length := by omega
    obtain ⟨g, off, c, es, a1, c1, a2, c2, rfl, hm1, hc0, hc1, hmo, hl1, hl2, hl3, hl4⟩ := (HP.out.kp hkp).at hlt
    obtain ⟨g', off', d, fs, b1, d1, b2, d2, rfl, hn1, hd0, hd1, hno, hl5, hl6, hl7, hl8⟩ := (HQ.out.kp hkp).at hlt'
    have HX : Hid (p[k]? = some (c, es)) := hm1
    have HY : Hid (q[k]? = some (d, fs)) := hn1
    have HS1 : Hid (Sl wr (.slice a1 c.length c1) c) := hmo.1
    have HS2 : Hid (Sl wr (.slice b1 d.length d1) d) := hno.1
    have HI1 : Hid (Is wr (.slice a2 es.length c2) es) := hmo.2
    have HI2 : Hid (Is wr (.slice b2 fs.length d2) fs) := hno.2
    have HNo : Hid (¬ (c, es) = (d, fs) → decide (p = q) = false) := by
     intro hne
     rw [decide_eq_false_iff_not]
     intro hpq
     rw [hpq] at hm1
     exact hne (Option.some.inj (hm1.symm.trans hn1))
    clear hm1 hn1 hmo hno hkp
    by_cases hcd : c = d
    ·have HEq : Hid (decide (c = d) = true) := decide_eq_true hcd
     have HCD : Hid (c = d) := hcd
     clear hcd
     by_cases hlen : es.length = fs.length
     ·have hle2 : ((es.length : Int) != fs.length) = false := by simp; omega
      go_wp2
      go_quiet ((go_at_call 31; exact Calls.quiet_of (xET _ _ _ c d _ HEq.out (HS1.out.kp (Kp.drewN _ _)) (HS2.out.kp (Kp.drewN _ _)))))
      go_wp2
      go_loopw [6] (fun i ws => ∃ l : Nat, l ≤ es.length ∧ i = .int .i64 l ∧ es.take l = fs.take l ∧ ∃ n, ws = wr.drewN n) (fun i _ => es.length - (intOf i).toNat)
      case atStart => exact ⟨0, Nat.zero_le _, rfl, rfl, _, rfl⟩
      case round =>
       obtain ⟨l, hk2, rfl, ht2, n2, rfl⟩ := hrel
       have HT2 : Hid (es.take l = fs.take l) := ht2
       clear ht2
       by_cases hll : l < es.length
       ·have hll' : l < fs.length := by omega
        obtain ⟨g2, o2, x, rfl, hx1, hx2, hx3, hx4⟩ := HI1.out.at hll
        obtain ⟨g3, o3, y, rfl, hy1, hy2, hy3, hy4⟩ := HI2.out.at hll'
        have HXx : Hid (es[l]? = some x) := hx1
        have HYy : Hid (fs[l]? = some y) := hy1
        clear hx1 hy1
        by_cases hxy : x = y
        ·subst hxy
         have hxx : (x != x) = false := by simp
         go_wp2
         go_quiet (fail)
         go_wp2
         go_roundw
         case rel => exact ⟨l + 1, by omega, by go_num, by rw [xAY HXx.out, xAY HYy.out, HT2.out], _, rfl⟩
         case measure => simp [intOf]; omega
        have hne : (x != y) = true := by rw [bne_iff_ne]; exact hxy
        have HF : Hid (decide (p = q) = false) := HNo.out (fun e => by
         have e2 : es = fs := congrArg Prod.snd e
         have := HXx.out.symm.trans ((congrArg (·[l]?) e2).trans HYy.out)
         exact hxy (Option.some.inj this))
        go_wp2
        go_quiet (fail)
        go_wp2
        go_ret
        exact ⟨ret1b HF.out.symm, by first | exact xEB HW.out _ | (rw [World.drewN_drewN]; exact xEB HW.out _)⟩
       have hle3 : l = es.length := by omega
       have HFs : Hid (es = fs) := by
        have := HT2.out
        rw [zO (by omega), zO (by omega)] at this
        exact this
       go_wp2
       go_roundw
       case rel => exact ⟨k + 1, by omega, by go_num, by rw [xAY HX.out, xAY HY.out, HT.out, HCD.out, HFs.out], xEB HW.out _⟩
       case measure => simp [intOf]; omega
     have hle2 : ((es.length : Int) != fs.length) = true := by rw [bne_iff_ne]; omega
     have HF : Hid (decide (p = q) = false) := HNo.out (fun e => hlen (by have e2 : es = fs := congrArg Prod.snd e; rw [e2]))
     go_wp2
     go_quiet ((go_at_call 31; exact Calls.quiet_of (xET _ _ _ c d _ HEq.out (HS1.out.kp (Kp.drewN _ _)) (HS2.out.kp (Kp.drewN _ _)))))
     go_wp2
     go_ret
     exact ⟨ret1b HF.out.symm, xEB HW.out _⟩
    have HEq : Hid (decide (c = d) = false) := decide_eq_false hcd
    have HF : Hid (decide (p = q) = false) := HNo.out (fun e => hcd (congrArg Prod.fst e))
    clear hcd
    go_wp2
    go_quiet ((go_at_call 31; exact Calls.quiet_of (xET _ _ _ c d _ HEq.out (HS1.out.kp (Kp.drewN _ _)) (HS2.out.kp (Kp.drewN _ _)))))
    go_wp2
    go_ret
    exact ⟨ret1b HF.out.symm, xEB HW.out _⟩
   have hk' : k = p.length := by omega
   have HF : Hid (decide (p = q) = true) := by
    have := HT.out
    rw [zO (by omega), zO (by omega)] at this
    exact decide_eq_true this
   go_wp2
   go_ret
   exact ⟨ret1b HF.out.symm, n, HW.out⟩
 have hle : ((p.length : Int) != q.length) = true := by rw [bne_iff_ne]; omega
 have HF : Hid (decide (p = q) = false) := decide_eq_false (fun e => hl (by rw [e]))
 go_enter Tryz.func18, Tryz.ntmps18
 go_wp2
 go_ret
 exact ⟨ret1b HF.out.symm, 0, rfl⟩
theorem same12_self (v u : Value) (p : List Mn) (w : World) (h : Ms w v p) (h' : Ms w u p) :
  Calls Tryz.prog 18 #[v, u] w fun e w' => e = .returned (.bool true) ∧ Below w.heap.size w w' :=
 (same12_any v u p p w h h').mono fun _ _ ⟨he, _, hw⟩ => ⟨by rw [he, decide_eq_true rfl], xAX hw⟩
def Shown12 : Prop := ∀ w : World, Tabs w → Calls Tryz.prog 9 #[] w fun e w' => e = .returned (.bool true) ∧ Below w.heap.size w w'
theorem right12_any (sv lv tv : Value) (sig : List Sy) (l : List Ip) (t : List Int) (w : World) (hs : Sg w sv sig) (hl : Ins w lv l) (ht : Is w tv t) (hb : t.length * 8 ≤ 140737488351232) :
  Calls Tryz.prog 21 #[sv, lv, tv] w fun e w' => e = .returned (.bool (decide (inE sig l = 0 ∧ termE sig t = 0))) ∧ Below w.heap.size w w' := by
 have HS := hid hs
 have HL := hid hl
 have HT := hid ht
 clear hs hl ht
 go_enter Tryz.func21, Tryz.ntmps21
 go_wp2_with fail
 refine (refCheck12_any _ _ sig l w HS.out HL.out).mono ?_
 rintro e w1 ⟨rfl, hb1⟩
 have B1 := hid hb1
 clear hb1
 by_cases hin : inE sig l = 0
 ·have hd0 : (inE sig l == 0) = true := by simpa using hin
  go_wp2_with fail
  refine (refCheck_any _ _ sig t w1 (HS.out.kp (zK B1.out)) (HT.out.kp (zK B1.out)) hb).mono ?_
  rintro e w2 ⟨rfl, hb2⟩
  have B2 := hid (zS B1.out hb2)
  clear hb2
  by_cases htt : termE sig t = 0
  ·have hd1 : (termE sig t == 0) = true := by simpa using htt
   have HD : Hid (decide (inE sig l = 0 ∧ termE sig t = 0) = true) := decide_eq_true ⟨hin, htt⟩
   go_wp2
   go_ret
   exact ⟨ret1b HD.out.symm, B2.out⟩
  have hd1 : (termE sig t == 0) = false := by simpa using htt
  have HD : Hid (decide (inE sig l = 0 ∧ termE sig t = 0) = false) := decide_eq_false fun h => htt h.2
  go_wp2
  go_ret
  exact ⟨ret1b HD.out.symm, B2.out⟩
 have hd0 : (inE sig l == 0) = false := by simpa using hin
 have HD : Hid (decide (inE sig l = 0 ∧ termE sig t = 0) = false) := decide_eq_false fun h => hin h.1
 go_wp2
 go_ret
 exact ⟨ret1b HD.out.symm, B1.out⟩
def valS (sig : List Sy) (sp : Int → List Mn) (vp : Int → List Nat) : List Int → Option (List (List Nat))
 | [] => some []
 | c :: u =>
  match valS sig sp vp u with
  | none => none
  | some st => if c < 0 then some (vp c :: st) else if valE (sp c) (st.take (arN sig c)) = 0 then some (valL (sp c) (st.take (arN sig c)) :: st.drop (arN sig c)) else none
theorem xCA {sig : List Sy} {sp : Int → List Mn} {vp : Int → List Nat} {c : Int} {u : List Int} {st : List (List Nat)} (h : valS sig sp vp u = some st) (hc : c < 0) : valS sig sp vp (c :: u) = some (vp c :: st) := by
 rw [valS, h]
 simp only [if_pos hc]
theorem xBV {sig : List Sy} {sp : Int → List Mn} {vp : Int → List Nat} {c : Int} {u : List Int} {st : List (List Nat)} (h : valS sig sp vp u = some st) (hc : ¬ c < 0) (h0 : valE (sp c) (st.take (arN sig c)) = 0) :
  valS sig sp vp (c :: u) = some (valL (sp c) (st.take (arN sig c)) :: st.drop (arN sig c)) := by
 rw [valS, h]
 simp only [if_neg hc, if_pos h0]
theorem valS_no {sig : List Sy} {sp : Int → List Mn} {vp : Int → List Nat} {c : Int} {u : List Int} {st : List (List Nat)} (h : valS sig sp vp u = some st) (hc : ¬ c < 0) (h0 : ¬ valE (sp c) (st.take (arN sig c)) = 0) : valS sig sp vp (c :: u) = none := by
 rw [valS, h]
 simp only [if_neg hc, if_neg h0]
theorem xBN {sig : List Sy} {sp : Int → List Mn} {vp : Int → List Nat} {u : List Int} (h : valS sig sp vp u = none) (c : Int) : valS sig sp vp (c :: u) = none := by
 rw [valS, h]
theorem xCH {sig : List Sy} {sp : Int → List Mn} {vp : Int → List Nat} {u : List Int} (h : valS sig sp vp u = none) : ∀ p : List Int, valS sig sp vp (p ++ u) = none
 | [] => h
 | c :: p => xBN (xCH h p) c
theorem valS_len {sig : List Sy} {sp : Int → List Mn} {vp : Int → List Nat} : ∀ {u : List Int} {st : List (List Nat)}, valS sig sp vp u = some st → st.length = (growR sig u).length
 | [], st, h => by cases h; rfl
 | c :: u, st, h => by
  cases hu : valS sig sp vp u with
  | none => rw [xBN hu] at h; cases h
  | some s =>
   have ih := valS_len hu
   by_cases hc : c < 0
   ·rw [xCA hu hc] at h
    cases h
    show _ = (growStep sig (growR sig u) c).length
    unfold growStep
    rw [if_pos hc, zF, zG, ih]
    rfl
   by_cases h0 : valE (sp c) (s.take (arN sig c)) = 0
   ·rw [xBV hu hc h0] at h
    cases h
    show _ = (growStep sig (growR sig u) c).length
    unfold growStep
    rw [if_neg hc, zF, zG, zI, zH, ih]
    simp only [zG, List.length_nil]
    omega
   rw [valS_no hu hc h0] at h; cases h
theorem valS_app {sig : List Sy} (ha : ArOk sig) {sp : Int → List Mn} {vp : Int → List Nat} {v : List Int} {sv : List (List Nat)} (hv : valS sig sp vp v = some sv) : ∀ (u p : List Int), firstT sig 1 0 (p ++ u) = (((p ++ u).length : Int), 0) →
  valS sig sp vp (u ++ v) = (valS sig sp vp u).map (· ++ sv)
 | [], p, _ => by simpa [valS] using hv
 | c :: u, p, h => by
  have ih := valS_app ha hv u (p ++ [c]) (by simpa using h)
  cases hu : valS sig sp vp u with
  | none =>
   rw [hu] at ih
   rw [xBN hu, yG, xBN ih]
   rfl
  | some s =>
   rw [hu] at ih
   have ih2 : valS sig sp vp (u ++ v) = some (s ++ sv) := ih
   by_cases hc : c < 0
   ·rw [yG, xCA ih2 hc, xCA hu hc]
    rfl
   obtain ⟨_, h2⟩ := xDZ ha p c u 1 0 (by omega) (by rw [h]; simp) hc
   rw [← valS_len hu] at h2
   have e1 : (s ++ sv).take (arN sig c) = s.take (arN sig c) := by rw [List.take_append_of_le_length h2]
   have e2 : (s ++ sv).drop (arN sig c) = s.drop (arN sig c) ++ sv := by rw [List.drop_append_of_le_length h2]
   by_cases h0 : valE (sp c) (s.take (arN sig c)) = 0
   ·rw [yG, xBV ih2 hc (by rw [e1]; exact h0), xBV hu hc h0, e1, e2]
    rfl
   rw [yG, valS_no ih2 hc (by rw [e1]; exact h0), valS_no hu hc h0]
   rfl
theorem valS_one {sig : List Sy} (ha : ArOk sig) {sp : Int → List Mn} {vp : Int → List Nat} {t : List Int} (h : rowE sig t = 0) : valS sig sp vp t = none ∨ ∃ p, valS sig sp vp t = some [p] := by
 cases ht : valS sig sp vp t with
 | none => exact .inl rfl
 | some st =>
  obtain ⟨T, hT, _⟩ := xFJ ha h
  have hl := valS_len ht
  rw [hT] at hl
  match st, hl with
  | [p], _ => exact .inr ⟨p, rfl⟩
theorem valS_flat {sig : List Sy} (ha : ArOk sig) {sp : Int → List Mn} {vp : Int → List Nat} : ∀ {us : List (List Int)} {ps : List (List Nat)}, (∀ u ∈ us, rowE sig u = 0) → us.length = ps.length → (∀ (i : Nat) u p, us[i]? = some u → ps[i]? = some p → valS sig sp vp u = some [p]) → valS sig sp vp us.flatten = some ps
 | [], [], _, _, _ => rfl
 | [], _ :: _, _, h, _ => by simp at h
 | _ :: _, [], _, h, _ => by simp at h
 | u :: us, p :: ps, hu, hl, h => by
  have ih := valS_flat ha (us := us) (ps := ps) (fun x hx => hu x (zT _ hx)) (by simpa using hl) (fun i x y hx hy => h (i + 1) x y (by simpa using hx) (by simpa using hy))
  rw [yT, valS_app ha ih u [] (xAI.1 (hu u (by simp))), h 0 u p rfl rfl]
  rfl
theorem xFO {sig : List Sy} (ha : ArOk sig) {sp : Int → List Mn} {vp : Int → List Nat} : ∀ {us : List (List Int)}, (∀ u ∈ us, rowE sig u = 0) → (∃ u ∈ us, valS sig sp vp u = none) → valS sig sp vp us.flatten = none
 | [], _, h => by obtain ⟨u, hu, _⟩ := h; cases hu
 | u :: us, hu, h => by
  rw [yT]
  cases hr : valS sig sp vp us.flatten with
  | none => exact xCH hr u
  | some s =>
   rw [valS_app ha hr u [] (xAI.1 (hu u (by simp)))]
   obtain ⟨x, hx, hn⟩ := h
   rcases yB.1 hx with rfl | hx
   ·rw [hn]; rfl
   rw [xFO ha (fun x hx => hu x (zT _ hx)) ⟨x, hx, hn⟩] at hr
   cases hr
def atV (ats : List (List Nat)) (c : Int) : List Nat := if ats.length = 0 then [] else (ats[(-1 - c).toNat % ats.length]?).getD []
def valO (sig : List Sy) (l : List Ip) (ats : List (List Nat)) (u : List Int) : Option (List Nat) := match valS sig (spol l) (atV ats) u with | some [x] => some x | _ => none
theorem valO_some {sig : List Sy} {l : List Ip} {ats : List (List Nat)} {u : List Int} {x : List Nat} (h : valS sig (spol l) (atV ats) u = some [x]) : valO sig l ats u = some x := by
 unfold valO
 rw [h]
theorem valO_none {sig : List Sy} {l : List Ip} {ats : List (List Nat)} {u : List Int} (h : valS sig (spol l) (atV ats) u = none) : valO sig l ats u = none := by
 unfold valO
 rw [h]
theorem valO_var {sig : List Sy} {l : List Ip} {ats : List (List Nat)} {c : Int} (hc : c < 0) : valO sig l ats [c] = some (atV ats c) := valO_some (xCA (st := []) rfl hc)
theorem valO_of {sig : List Sy} (ha : ArOk sig) {l : List Ip} {ats : List (List Nat)} {u : List Int} (hu : rowE sig u = 0) {x : List Nat} (h : valO sig l ats u = some x) : valS sig (spol l) (atV ats) u = some [x] := by
 rcases valS_one (sp := spol l) (vp := atV ats) ha hu with h1 | ⟨y, h1⟩
 ·rw [valO_none h1] at h; cases h
 rw [valO_some h1] at h
 cases h
 exact h1
theorem valO_bad {sig : List Sy} (ha : ArOk sig) {l : List Ip} {ats : List (List Nat)} {c : Int} {us : List (List Int)} (hu : ∀ u ∈ us, rowE sig u = 0) {u : List Int} (hm : u ∈ us) (hn : valO sig l ats u = none) : valO sig l ats (c :: us.flatten) = none := by
 rcases valS_one (sp := spol l) (vp := atV ats) ha (hu u hm) with h1 | ⟨x, h1⟩
 ·exact valO_none (xBN (xFO ha hu ⟨u, hm, h1⟩) c)
 rw [valO_some h1] at hn
 cases hn
theorem valO_app {sig : List Sy} (ha : ArOk sig) {l : List Ip} {ats : List (List Nat)} {c : Int} (hc : ¬ c < 0) {us : List (List Int)} {xs : List (List Nat)} (hl : us.length = arN sig c) (hu : ∀ u ∈ us, rowE sig u = 0) (hp : us.length = xs.length) (h : ∀ (i : Nat) u x, us[i]? = some u → xs[i]? = some x → valO sig l ats u = some x) :
  valO sig l ats (c :: us.flatten) = if valE (spol l c) xs = 0 then some (valL (spol l c) xs) else none := by
 have hfl := valS_flat (sp := spol l) (vp := atV ats) ha hu hp (fun i u x h1 h2 => valO_of ha (hu u (zD h1)) (h i u x h1 h2))
 have e1 : xs.take (arN sig c) = xs := zO (by omega)
 have e2 : xs.drop (arN sig c) = [] := zP (by omega)
 by_cases h0 : valE (spol l c) xs = 0
 ·rw [if_pos h0]
  exact valO_some (by rw [xBV hfl hc (by rw [e1]; exact h0), e1, e2])
 rw [if_neg h0]
 exact valO_none (valS_no hfl hc (by rw [e1]; exact h0))
end Go.Proofs.YtdjmjhlbjcgoiaaGreatDoor
