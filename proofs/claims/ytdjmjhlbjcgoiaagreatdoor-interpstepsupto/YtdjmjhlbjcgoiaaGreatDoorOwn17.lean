/- Texts of the proof, one behind the other. -/
import Derived.Test.YtdjmjhlbjcgoiaaGreatDoorOwn4
import Derived.Test.YtdjmjhlbjcgoiaaGreatDoorOwn16
import Derived.Test.YtdjmjhlbjcgoiaaGreatDoorOwn15
import Derived.Test.YtdjmjhlbjcgoiaaGreatDoorOwn14
set_option maxRecDepth 1000000
set_option maxHeartbeats 6400000
namespace Go.Proofs.YtdjmjhlbjcgoiaaGreatDoor
open Go.RowKit Go.Maps Go.BigFrame
theorem equalI_any (v u : Value) (xs ys : List Int) (w : World) (h : Is w v xs) (h' : Is w u ys) :
  Calls Tryz.prog 106 #[v, u] w fun e w' => e = .returned (.bool (decide (xs = ys))) ∧ ∃ n, w' = w.drewN n := by
 obtain ⟨ao, cap, rfl, hao, hca, hcl⟩ := h.flatI
 obtain ⟨bo, cap', rfl, hbo, hcb, hcl'⟩ := h'.flatI
 clear h h'
 by_cases hl : xs.length = ys.length
 ·have hle : ((xs.length : Int) != ys.length) = false := by simp; omega
  go_enter Tryz.func106, Tryz.ntmps106
  go_wp2
  go_loopw [13] (fun i wr => ∃ k : Nat, k ≤ xs.length ∧ i = .int .i64 k ∧ xs.take k = ys.take k ∧ ∃ n, wr = w.drewN n) (fun i _ => xs.length - (intOf i).toNat)
  case atStart => exact ⟨0, Nat.zero_le _, rfl, rfl, 0, rfl⟩
  case round =>
   obtain ⟨k, hk, rfl, ht, n, rfl⟩ := hrel
   have HT : Hid (xs.take k = ys.take k) := ht
   clear ht
   by_cases hlt : k < xs.length
   ·obtain ⟨g, off, x, rfl, hx1, hx3⟩ := hcl k hlt
    obtain ⟨g', off', y, rfl, hy1, hy3⟩ := hcl' k (by omega)
    have HX : Hid (xs[k]? = some x) := hx1
    have HY : Hid (ys[k]? = some y) := hy1
    have hlt' : k < ys.length := by omega
    clear hx1 hy1 hcl hcl'
    by_cases hxy : x = y
    ·subst hxy
     have hxx : (x != x) = false := by simp
     go_wp2
     go_quiet (fail)
     go_wp2
     go_roundw
     case rel => exact ⟨k + 1, by omega, by go_num, by rw [xAM HX.out, xAM HY.out, HT.out], _, rfl⟩
     case measure => simp [intOf]; omega
    have hne : (x != y) = true := by rw [bne_iff_ne]; exact hxy
    go_wp2
    go_quiet (fail)
    go_wp2
    go_ret
    exact ⟨ret1b (by rw [eq_comm, decide_eq_false_iff_not]; rintro rfl; have := HX.out.symm.trans HY.out; simp at this; exact hxy this), _, World.drewN_drewN _ _ _⟩
   have hk' : k = xs.length := by omega
   go_wp2
   go_ret
   refine ⟨ret1b ?_, n, rfl⟩
   have := HT.out
   rw [zO (by omega), zO (by omega)] at this
   simp [this]
 have hle : ((xs.length : Int) != ys.length) = true := by rw [bne_iff_ne]; omega
 go_enter Tryz.func106, Tryz.ntmps106
 go_wp2
 go_ret
 exact ⟨ret1b (by rw [eq_comm, decide_eq_false_iff_not]; rintro rfl; exact hl rfl), 0, rfl⟩
theorem number_any (b o c q : Nat) (x : Int) (w : World) (h : w.cell? ⟨b, o + q, none⟩ = some (.int .i64 x)) (h1 : -9223372036854775808 ≤ x) (h2 : x ≤ 9223372036854775807) :
  Calls Tryz.prog 165 #[.agg #[cdS b o c q 1]] w fun e w' => e = .returned (.int .i64 (-1 - x)) ∧ Below w.heap.size w w' := by
 have hc := (zK (zA (w := w) (.cells #[cdS b o c q 1] 216))).cell _ _ h
 have hw : IntKind.i64.wrap (-1 - x) = -1 - x := yA _ ⟨by omega, by omega⟩
 unfold cdS at hc ⊢
 go_enter Tryz.func165, Tryz.ntmps165
 go_wp2
 go_ret
 exact ⟨rfl, zA _⟩
theorem symbol_any (B b o c q n : Nat) (x : Int) (w : World) (h0 : w.cell? ⟨B, 0, none⟩ = some (cdS b o c q (1 + n))) (h : w.cell? ⟨b, o + q, none⟩ = some (.int .i64 x)) :
  Calls Tryz.prog 192 #[.pointer (some ⟨B, 0, none⟩)] w fun e w' => e = .returned (.int .i64 x) ∧ w' = w := by
 unfold cdS at h0
 have hn : 0 < 1 + n := by omega
 have hni : (0 : Int) < 1 + (n : Int) := by omega
 go_enter Tryz.func192, Tryz.ntmps192
 go_wp2
 go_ret
 exact ⟨rfl, rfl⟩
theorem zero_rowI (w : World) : (zeroValue 30).run Tryz.prog w = .ok (.slice none 0 0) w := by kernel_rfl
theorem under_mapI : Tryz.prog.underlying 183 = some (.map 3 30) := by kernel_rfl
theorem bindAlike_any (b : Nat) (L : List (Int × Value)) (n : Int) (s : Value) (u : List Int) (w : World) (hm : MapV w b L) (hs : Is w s u) (hL : ∀ v, L.lookup n = some v → ∃ u', Is w v u') (h1 : -9223372036854775808 ≤ n) (h2 : n ≤ 9223372036854775807) (hl : L.length < maxLen) :
  Calls Tryz.prog 164 #[.map (some b), .int .i64 n, s] w fun e w' =>
   (L.lookup n = none ∧ e = .returned (.bool true) ∧ MapV w' b ((n, s) :: L) ∧ w.grownBy w' (some b)) ∨
   (∃ v u', L.lookup n = some v ∧ Is w v u' ∧ e = .returned (.bool (decide (u' = u))) ∧ ∃ k, w' = w.drewN k) := by
 have hlk := hm.look under_mapI (zero_rowI w) h1 h2
 have HM := hid hm
 have HS := hid hs
 cases hn : L.lookup n with
 | none =>
  rw [hn] at hlk
  simp only [Option.getD, Option.isSome] at hlk
  obtain ⟨w4, hr4, hm4, hg4⟩ := hm.store under_mapI h1 h2 hn hl s
  have HLk := hid hlk
  have HR4 := hid hr4
  have HM4 := hid hm4
  have HG4 := hid hg4
  clear hlk hr4 hm4 hg4 hm hs hL
  go_enter Tryz.func164, Tryz.ntmps164
  go_wp2_with (first
   | (at_lookup; refine xAT rfl _ _ _ _ rfl _ _ _ rfl rfl HLk.out ?_)
   | (at_mapUpdate; refine xBH rfl _ _ _ _ rfl _ _ _ rfl rfl rfl HR4.out ?_))
  go_ret
  exact .inl ⟨trivial, rfl, HM4.out, HG4.out⟩
 | some v =>
  rw [hn] at hlk
  simp only [Option.getD, Option.isSome] at hlk
  obtain ⟨u', hu'⟩ := hL v hn
  have HLk := hid hlk
  have HU := hid hu'
  clear hlk hm hs hL hu'
  go_enter Tryz.func164, Tryz.ntmps164
  go_wp2_with (first
   | (at_lookup; refine xAT rfl _ _ _ _ rfl _ _ _ rfl rfl HLk.out ?_))
  refine (equalI_any v s u' u w HU.out HS.out).mono ?_
  rintro e w2 ⟨rfl, k, hw⟩
  go_wp2
  go_ret
  exact .inr ⟨v, u', rfl, HU.out, rfl, k, rfl⟩
def prC (xs : List (Value × Value)) : List Value := xs.flatMap fun p => [p.1, p.2]
theorem prC_len : ∀ xs : List (Value × Value), (prC xs).length = xs.length * 2
 | [] => rfl
 | p :: xs => by
  have := prC_len xs
  simp only [prC, List.flatMap_cons, zF, zG, List.length_nil] at this ⊢
  omega
theorem prC_app (xs ys : List (Value × Value)) : prC (xs ++ ys) = prC xs ++ prC ys := by simp [prC, List.flatMap_append]
theorem prC_at : ∀ (xs : List (Value × Value)) (k : Nat) (p : Value × Value), xs[k]? = some p → (prC xs)[k * 2]? = some p.1 ∧ (prC xs)[k * 2 + 1]? = some p.2
 | [], k, p, h => by simp at h
 | q :: xs, 0, p, h => by
  simp only [yQ, zX] at h
  subst h
  exact ⟨rfl, rfl⟩
 | q :: xs, k + 1, p, h => by
  rw [yP] at h
  have := prC_at xs k p h
  refine ⟨?_, ?_⟩
  ·rw [show (k + 1) * 2 = k * 2 + 1 + 1 by omega]
   exact this.1
  rw [show (k + 1) * 2 + 1 = k * 2 + 1 + 1 + 1 by omega]
  exact this.2
theorem info_pair : (Tryz.prog.info? 213).map (fun i => (i.zero, i.size, i.bytes)) = some (some (.agg #[.nilIface, .nilIface]), 2, 32) := by kernel_rfl
theorem xEF : Tryz.prog.underlying 214 = some (.slice 213) := by kernel_rfl
def OwP (w : World) (base : Nat) (v : Value) (xs : List (Value × Value)) : Prop := w.ownsRow base 213 2 v xs.length (prC xs)
theorem join_pairs (ty : TypeId) {w : World} {base : Nat} {x : Value} {xs ys : List (Value × Value)} {ao : Option Addr} {cap : Nat} (ho : OwP w base x xs) (hr : ys = [] ∨ ∃ g off, ao = some ⟨g, off, none⟩ ∧ ∀ (j : Nat) (u : Value), (prC ys)[j]? = some u → w.cell? ⟨g, off + j, none⟩ = some u)
  (h1 : ∀ u ∈ prC ys, u.oneCell' = true) (hb : base ≤ w.heap.size) (hl : (xs.length + ys.length) * 32 ≤ 140737488355328) :
  ∃ v' w', (Builtin.append_ #[214, 214] ty #[x, .slice ao ys.length cap]).run Tryz.prog w = .ok v' w' ∧ OwP w' base v' (xs ++ ys) ∧ w.grownBy w' x.ownBlock ∧ (v'.ownBlock = x.ownBlock ∨ v'.ownBlock = some w.heap.size) := by
 obtain ⟨i0, hi, hz0, hz1, hz2⟩ := info_parts info_pair
 have hshape : ∃ bo bc, x = .slice bo xs.length bc ∧ xs.length ≤ bc := by
  rcases ho.2 with ⟨h8, h9⟩ | ⟨g8, c8, cur8, h8, _, _, h9, _⟩
  ·exact ⟨none, 0, by rw [h8, h9], by omega⟩
  exact ⟨_, c8, h8, h9⟩
 by_cases h0 : ys = []
 ·subst h0
  obtain ⟨bo, bc, rfl, hbc⟩ := hshape
  refine ⟨_, w, run_append_nothing w 214 214 ty 213 i0 xEF hi _ xs.length bc hbc _ ?_, by rw [zV]; exact ho, World.grownBy.refl _ _, .inl rfl⟩
  cases ao with
  | none => exact Src.ofNil w xEF _
  | some a => exact Src.ofSlice w xEF a 0 _ [] (by simp) (fun j u hj => (by simp at hj)) (fun u hu => (by simp at hu))
 obtain ⟨g, off, rfl, hc⟩ : ∃ g off, ao = some ⟨g, off, none⟩ ∧ ∀ (j : Nat) (u : Value), (prC ys)[j]? = some u → w.cell? ⟨g, off + j, none⟩ = some u := by
  rcases hr with hr | hr
  ·exact absurd hr h0
  exact hr
 obtain ⟨v', w', hr, g2, g3, _, g5⟩ := run_append_own_at (P := Tryz.prog) w base 214 ty 213 i0 _ 2 32 xEF hi hz0 hz1 hz2 rfl (by decide) x xs.length (prC xs) ho ⟨g, off, none⟩ ys.length cap (prC ys) (prC_len ys)
  (fun j u hj => by rw [Addr.add_lit]; exact hc j u hj) h1 (by unfold maxLen; omega) (by omega) hb
 refine ⟨v', w', hr, ?_, g3, g5⟩
 unfold OwP
 rw [zF, prC_app]
 exact g2
theorem MapV.lookOne {w : World} {b : Nat} {L : List (Int × Value)} (h : MapV w b L) {t e : TypeId} {z : Value} (ht : Tryz.prog.underlying t = some (.map 3 e)) (hz : (zeroValue e).run Tryz.prog w = .ok z w) {k : Int} (h1 : -9223372036854775808 ≤ k) (h2 : k ≤ 9223372036854775807) {u : Value} (hl : L.lookup k = some u) :
  (Instr.lookup t (.map (some b)) (.int .i64 k) false).run Tryz.prog w = .ok u w := by
 obtain ⟨D, hD, _, ha, hh⟩ := h
 obtain ⟨v, ps, hrun, hv⟩ := hD.lookup set_keyed ht hz (zd := .held z) (zp := []) rfl (key_int h1 h2)
 rw [hrun]
 have hv2 : D.atKey (.int .i64 k) (.held z) = .held v := by
  simp only [RV, zX, Prod.mk.injEq] at hv
  exact hv.1.symm
 rw [ha k u hl] at hv2
 rw [DataW.held.inj hv2]
def EBo (base : Nat) (w : World) (u : Value) (b : Bd) : Prop := OwI w base u b.2 ∧ -9223372036854775808 ≤ b.1 ∧ b.1 ≤ 9223372036854775807 ∧ b.2.length * 8 ≤ 140737488351232
def OBW (base : Nat) (w : World) (v : Value) (s : List Bd) : Prop :=
 ∃ us : List Value, us.length = s.length ∧ (∀ (i : Nat) (u : Value) (b : Bd), us[i]? = some u → s[i]? = some b → EBo base w u b) ∧ w.ownsRow base 229 2 v s.length (flatB s us)
theorem OBW.mono {base b' : Nat} {w : World} {v : Value} {s : List Bd} (h : OBW base w v s) (hb : b' ≤ base) : OBW b' w v s := by
 obtain ⟨us, hl, hc, ho⟩ := h
 refine ⟨us, hl, fun i u b h1 h2 => ⟨(hc i u b h1 h2).1.mono hb, (hc i u b h1 h2).2⟩, ho.1, ?_⟩
 rcases ho.2 with h | ⟨g, cap, cur, rfl, hg, r⟩
 ·exact .inl h
 exact .inr ⟨g, cap, cur, rfl, by omega, r⟩
theorem OBW.later {base : Nat} {w w' : World} {v : Value} {s : List Bd} (h : OBW base w v s) (hb : Below w.heap.size w w') : OBW base w' v s := by
 obtain ⟨us, hl, hc, ho⟩ := h
 exact ⟨us, hl, fun i u b h1 h2 => ⟨(hc i u b h1 h2).1.later hb, (hc i u b h1 h2).2⟩, xAC ho hb⟩
theorem OBW.nil (base : Nat) (w : World) : OBW base w (.slice none 0 0) [] := ⟨[], rfl, fun i c m h => (by simp at h), World.ownsRow_nil _ _ _ _⟩
theorem OBW.bs {base : Nat} {w : World} {v : Value} {s : List Bd} (h : OBW base w v s) : Bs w v s := by
 obtain ⟨us, hl, hc, ho⟩ := h
 have ho2 := ho
 rcases ho2.2 with ⟨rfl, hn⟩ | ⟨g, cap, cur, rfl, hbg, hg, hcap, hm, hs, ht⟩
 ·obtain rfl := zE hn
  exact Row.nil (by simp [maxLen])
 refine ⟨_, cap, rfl, hcap, hm, fun _ => ⟨g, 0, rfl, (zL.1 hg).1, ?_⟩⟩
 intro k b hk
 have hlt : k < s.length := (zB.1 hk).1
 have hck : us[k]? = some us[k] := zC (by omega)
 obtain ⟨h1, h2⟩ := flatB_get hk hck
 obtain ⟨o1, o2, o3, o4⟩ := hc k _ b hck hk
 refine ⟨o2, o3, o4, ?_, us[k], ?_, o1.is⟩
 ·rw [Nat.zero_add, World.ownsRow.cellAt ho2 (k * 2) (by omega)]
  exact h1
 rw [Nat.zero_add, World.ownsRow.cellAt ho2 (k * 2 + 1) (by omega)]
 exact h2
theorem OBW.snoc (ty : TypeId) {base : Nat} {w : World} {v u : Value} {s : List Bd} {x : Int} {t : List Int} (h : OBW base w v s) (hb : base ≤ w.heap.size) (hE : EBo base w u (x, t)) (hlen : (s.length + 1) * 32 ≤ 140737488355328) :
  ∃ v' w', (Builtin.append_ #[124, 124] ty #[v, .slice (some ⟨w.heap.size, 0, none⟩) 1 1]).run Tryz.prog (w.alloc (.cells #[.int .i64 x, u] 229)) = .ok v' w' ∧ OBW base w' v' (s ++ [(x, t)]) ∧ (w.alloc (.cells #[.int .i64 x, u] 229)).grownBy w' v.ownBlock ∧ (∀ j, v.ownBlock = some j → base ≤ j ∧ w.heap[j]? ≠ none ∧ ∃ cs, w.heap[j]? = some (.cells cs 229)) := by
 obtain ⟨i1, hi1, hy0, hy1, hy2⟩ := info_parts info_bind
 have ha := zA (w := w) (.cells #[.int .i64 x, u] 229)
 have h' := h.later ha
 obtain ⟨us, hl, hc, ho0⟩ := h
 obtain ⟨vs, hl', hc', ho⟩ := h'
 have hone : u.oneCell' = true := by obtain ⟨_, _, rfl, _⟩ := hE.1.shape; rfl
 obtain ⟨v', w', hrun, h2, h3, _, _⟩ := run_append_own_at (P := Tryz.prog) (w.alloc (.cells #[.int .i64 x, u] 229)) base 124 ty 229 i1 _ 2 32 under_binds hi1 hy0 hy1 hy2 rfl (by decide) v s.length (flatB s vs) ho ⟨w.heap.size, 0, none⟩ 1 1 [.int .i64 x, u] rfl
  (fun j c hj => by
   rw [Addr.add_lit, Nat.zero_add, cell_of_row _ _ _ _ _ _ (yU _ _)]
   simpa using hj)
  (fun c hc => by
   simp only [yB, List.not_mem_nil, or_false] at hc
   rcases hc with rfl | rfl
   ·rfl
   exact hone) (by unfold maxLen; omega) (by omega) (Nat.le_trans hb ha.size)
 have hk : ∀ {y : Value} {b : Bd}, EBo base (w.alloc (.cells #[.int .i64 x, u] 229)) y b → EBo base w' y b := fun {y b} hy => ⟨hy.1.kept h3 (xCD hy.1.2 ho (by decide)), hy.2⟩
 refine ⟨v', w', hrun, ⟨vs ++ [u], by rw [zF, zF, hl']; rfl, fun i y b h1 h4 => ?_, ?_⟩, h3, fun j hj => ?_⟩
 ·by_cases hi : i < vs.length
  ·rw [zN hi] at h1
   rw [zN (by omega)] at h4
   exact hk (hc' i y b h1 h4)
  rw [zM (by omega)] at h1
  rw [zM (by omega), ← hl'] at h4
  have hi : i - vs.length = 0 := by
   have := (zB.1 h1).1
   simp at this
   omega
  rw [hi] at h1 h4
  simp at h1 h4
  subst h1
  subst h4
  exact hk ⟨hE.1.later ha, hE.2⟩
 ·rw [zF, flatB_append hl']
  exact h2
 rcases ho0.2 with ⟨rfl, _⟩ | ⟨g, cap, cur, rfl, hbg, hg, _⟩
 ·cases hj
 cases hj
 exact ⟨hbg, by rw [hg]; simp, cur, hg⟩
def VB (w : World) (g : Nat) (vals : List Value) : Prop := w.heap[g]? = some (.cells vals.toArray 31 (0, 0))
theorem VB.lt {w : World} {g : Nat} {vals : List Value} (h : VB w g vals) : g < w.heap.size := (zL.1 h).1
theorem VB.cell {w : World} {g : Nat} {vals : List Value} (h : VB w g vals) {k : Nat} {v : Value} (hk : vals[k]? = some v) : w.cell? ⟨g, k, none⟩ = some v := by
 rw [cell_of_row _ _ _ _ _ _ h]
 simpa using hk
theorem VB.frozen {w : World} {g : Nat} {vals : List Value} (h : VB w g vals) (k : Nat) : w.frozen? ⟨g, k, none⟩ = false := frozen_of_row w _ _ _ _ h
theorem VB.set {w : World} {g : Nat} {vals : List Value} (h : VB w g vals) (k : Nat) (v : Value) : VB (w.setCell ⟨g, k, none⟩ v) g (vals.set k v) := by
 unfold VB
 rw [heap_setCell_same _ _ _ _ _ _ h]
 simp
theorem VB.later {w w' : World} {g : Nat} {vals : List Value} (h : VB w g vals) (hb : Below w.heap.size w w') : VB w' g vals := (hb.block g h.lt).trans h
theorem VB.held {w w' : World} {g : Nat} {vals : List Value} {row : Option Nat} (h : VB w g vals) (hg : w.grownBy w' row) (hr : some g ≠ row) : VB w' g vals := (hg.block g h.lt hr).trans h
theorem xEJ (w : World) (g k : Nat) (v : Value) : w.grownBy (w.setCell ⟨g, k, none⟩ v) (some g) :=
 ⟨rfl, rfl, rfl, by simp, fun j _ hj => Below.heap_setCell w ⟨g, k, none⟩ v j (fun e => hj (by rw [e]))⟩
theorem own_notVB {w : World} {base n g : Nat} {e : TypeId} {s : Nat} {v : Value} {xs vals : List Value} (h : w.ownsRow base e s v n xs) (hg : VB w g vals) (hne : e ≠ 31) : v.ownBlock = none ∨ v.ownBlock ≠ some g := by
 rcases h.2 with ⟨rfl, _⟩ | ⟨g', cap, cur, rfl, _, hg', _⟩
 ·exact .inl rfl
 refine .inr ?_
 simp only [Value.ownBlock]
 intro e
 cases e
 unfold VB at hg
 rw [hg] at hg'
 simp only [zX, Obj.cells.injEq] at hg'
 exact hne hg'.2.1.symm
theorem OM.held {w w' : World} {base : Nat} {v : Value} {p : List Mn} {row : Option Nat} (h : OM w base v p) (hg : w.grownBy w' row) (hn : ∀ (e : TypeId) (s n : Nat) (u : Value) (xs : List Value), w.ownsRow base e s u n xs → e ≠ 31 → u.ownBlock = none ∨ u.ownBlock ≠ row) : OM w' base v p := by
 obtain ⟨cs, hl, hc, ho⟩ := h
 refine ⟨cs, hl, fun i c m h1 h2 => ?_, World.ownsRow.kept ho hg (hn _ _ _ _ _ ho (by decide))⟩
 obtain ⟨o1, o2⟩ := hc i c m h1 h2
 exact ⟨o1.held hg (hn _ _ _ _ _ o1.2 (by decide)), o2.kept hg (hn _ _ _ _ _ o2.2 (by decide))⟩
theorem OM.setVB {w : World} {base g k : Nat} {v u : Value} {p : List Mn} {vals : List Value} (h : OM w base v p) (hg : VB w g vals) : OM (w.setCell ⟨g, k, none⟩ u) base v p :=
 h.held (xEJ w g k u) fun _ _ _ _ _ ho hne => own_notVB ho hg hne
theorem OM.mapped {w w' : World} {base b : Nat} {v : Value} {p : List Mn} {es : Array MapEntry} {clock : Nat} (h : OM w base v p) (hb : w.heap[b]? = some (.map es clock)) (hg : w.grownBy w' (some b)) : OM w' base v p :=
 h.held hg fun _ _ _ _ _ ho _ => own_notMap ho hb
theorem info_monos : (Tryz.prog.info? 31).map (fun i => (i.zero, i.size, i.bytes)) = some (some (.slice none 0 0), 1, 24) := by kernel_rfl
theorem xGC : Tryz.prog.underlying 49 = some (.slice 31) := by kernel_rfl
theorem xFP (w : World) (n : Nat) (hn : n * 24 ≤ 140737488355328) : (Instr.makeSlice 49 (.int .i64 (n : Int)) (.int .i64 (n : Int))).run Tryz.prog w = .ok (.slice (some ⟨w.heap.size, 0, none⟩) n n) (w.alloc (.cells (List.replicate n (Value.slice none 0 0)).toArray 31)) := by
 obtain ⟨i0, hi, hz0, hz1, hz2⟩ := xGJ info_monos
 have h := run_make (P := Tryz.prog) w 49 31 i0 (.slice none 0 0) xGC hi hz0 .i64 .i64 (n : Int) (n : Int) (by omega) (Int.le_refl _) (by rw [hz2]; omega) (by omega)
 rw [hz1, Int.toNat_natCast] at h
 have e : madeCells (Value.slice none 0 0).cells (n * 1) = (List.replicate n (Value.slice none 0 0)).toArray := by
  apply Array.ext'
  have : (Value.slice none 0 0).cells = #[Value.slice none 0 0] := rfl
  rw [this, toList_madeCells_one]
  simp
 rw [e] at h
 exact h
theorem VB.ps {w : World} {g top n cap : Nat} {vals : List Value} {ps : List (List Mn)} (h : VB w g vals) (hn : n = ps.length) (hc : n ≤ cap) (hm : cap ≤ maxLen) (hx : ∀ (i : Nat) p, ps[i]? = some p → ∃ u, vals[top + i]? = some u ∧ Ms w u p) : Ps w (.slice (some ⟨g, top, none⟩) n cap) ps := by
 subst hn
 refine ⟨_, cap, rfl, hc, hm, fun _ => ⟨g, top, rfl, h.lt, fun k p hk => ?_⟩⟩
 obtain ⟨u, hu, hms⟩ := hx k p hk
 exact ⟨u, by rw [Nat.mul_one]; exact h.cell hu, hms⟩
def zerosA (n : Nat) : Array Value := ((List.replicate n (0 : Int)).map I64).toArray
theorem run_make_intsI (w : World) (n : Nat) (hn : n * 8 ≤ 140737488355328) : (Instr.makeSlice 30 (.int .i64 (n : Int)) (.int .i64 (n : Int))).run Tryz.prog w = .ok (.slice (some ⟨w.heap.size, 0, none⟩) n n) (w.alloc (.cells (zerosA n) 3)) := by
 obtain ⟨i0, hi, hz0, hz1, hz2⟩ := xGJ info_int
 have h := run_make (P := Tryz.prog) w 30 3 i0 (.int .i64 0) xBQ hi hz0 .i64 .i64 (n : Int) (n : Int) (by omega) (Int.le_refl _) (by rw [hz2]; omega) (by omega)
 rw [hz1, Int.toNat_natCast] at h
 have e : madeCells (Value.int .i64 0).cells (n * 1) = zerosA n := by
  unfold zerosA
  apply Array.ext'
  rw [made_zero64]
 rw [e] at h
 exact h
theorem owI_block {w : World} {base g : Nat} {xs : List Int} (hb : base ≤ g) (hz : ZI xs) (hm : xs.length ≤ maxLen) (h : w.heap[g]? = some (.cells (xs.map I64).toArray 3 (0, 0))) : OwI w base (.slice (some ⟨g, 0, none⟩) xs.length xs.length) xs :=
 ⟨hz, by simp, .inr ⟨g, xs.length, _, rfl, hb, h, Nat.le_refl _, hm, by simp, by simp [zO]⟩⟩
theorem om_one {w : World} {base g n : Nat} {es : List Int} (hb : base ≤ w.heap.size) (hE : OwI w base (.slice (some ⟨g, 0, none⟩) n n) es) :
  OM ((w.alloc (.cells #[.int .u32 1] 38)).alloc (.cells #[.slice (some ⟨w.heap.size, 0, none⟩) 1 1, .slice (some ⟨g, 0, none⟩) n n] 37)) base (.slice (some ⟨w.heap.size + 1, 0, none⟩) 1 1) [([1], es)] := by
 have b1 := zA (w := w) (.cells #[.int .u32 1] 38)
 have b2 := zA (w := w.alloc (.cells #[.int .u32 1] 38)) (.cells #[.slice (some ⟨w.heap.size, 0, none⟩) 1 1, .slice (some ⟨g, 0, none⟩) n n] 37)
 have hO : Ow (w.alloc (.cells #[.int .u32 1] 38)) base (.slice (some ⟨w.heap.size, 0, none⟩) 1 1) [1] :=
  ⟨fun x hx => by simp at hx; omega, rfl, .inr ⟨w.heap.size, 1, _, rfl, hb, yU _ _, Nat.le_refl _, by unfold maxLen; omega, rfl, rfl⟩⟩
 refine ⟨[(.slice (some ⟨w.heap.size, 0, none⟩) 1 1, .slice (some ⟨g, 0, none⟩) n n)], rfl, fun i c m h1 h2 => ?_, rfl, .inr ⟨w.heap.size + 1, 1, #[.slice (some ⟨w.heap.size, 0, none⟩) 1 1, .slice (some ⟨g, 0, none⟩) n n], rfl, by omega, ?_, Nat.le_refl _, by unfold maxLen; omega, rfl, rfl⟩⟩
 ·have hi : i = 0 := by
   have := (zB.1 h1).1
   simpa using this
  subst hi
  simp at h1 h2
  subst h1
  subst h2
  exact ⟨hO.since b2, hE.later (zS b1 b2)⟩
 have h := yU (w.alloc (.cells #[.int .u32 1] 38)) (.cells #[.slice (some ⟨w.heap.size, 0, none⟩) 1 1, .slice (some ⟨g, 0, none⟩) n n] 37)
 rw [World.size_alloc] at h
 exact h
theorem zeros_set (k : Nat) : (zerosA (k + 1)).setIfInBounds k (.int .i64 1) = ((List.replicate k (0 : Int) ++ [1]).map I64).toArray := by
 unfold zerosA
 rw [List.replicate_succ', yI, yI]
 apply Array.ext'
 rw [Array.toList_setIfInBounds]
 simp [I64]
theorem zi_vpol (k : Nat) : ZI (List.replicate k (0 : Int) ++ [1]) := fun i x hx => by
 rcases yE.1 (zD hx) with h | h
 ·rw [List.eq_of_mem_replicate h]; omega
 rw [yR.1 h]; omega
theorem variable_any (k : Nat) (w : World) (hk : k < 512) :
  Calls Tryz.prog 99 #[.int .i64 (k : Int)] w fun e w' => ∃ v, e = .returned v ∧ OM w' w.heap.size v (vpol k) ∧ Below w.heap.size w w' := by
 have hmk := run_make_intsI w (k + 1) (by omega)
 rw [Int.natCast_succ] at hmk
 have HG : Hid ((w.alloc (.cells (zerosA (k + 1)) 3)).heap[w.heap.size]? = some (.cells (zerosA (k + 1)) 3 (0, 0))) := hid (yU _ _)
 have B1 := hid (zA (w := w) (.cells (zerosA (k + 1)) 3))
 go_enter Tryz.func99, Tryz.ntmps99
 go_upto_region 2 with fail
 clear hmk
 generalize w.alloc (.cells (zerosA (k + 1)) 3) = W1 at HG B1 ⊢
 have hfr : W1.frozen? ⟨w.heap.size, k, none⟩ = false := frozen_of_row W1 _ _ _ _ HG.out
 have hcell : W1.cell? ⟨w.heap.size, k, none⟩ = some (.int .i64 0) := by
  rw [cell_of_row _ _ _ _ _ _ HG.out]
  unfold zerosA
  simp [I64]
 obtain ⟨W2, hW2⟩ : ∃ X, X = W1.setCell ⟨w.heap.size, k, none⟩ (.int .i64 1) := ⟨_, rfl⟩
 have HG2 : Hid (W2.heap[w.heap.size]? = some (.cells ((List.replicate k (0 : Int) ++ [1]).map I64).toArray 3 (0, 0))) := by
  show _ = _
  rw [hW2, heap_setCell_same _ _ _ _ _ _ HG.out, zeros_set]
 have B2 : Hid (Below w.heap.size w W2) := by rw [hW2]; exact B1.out.setCell (p := ⟨w.heap.size, k, none⟩) (Nat.le_refl _) (.int .i64 1)
 go_upto_region 3 with fail
 rw [← hW2]
 clear hW2 hfr hcell HG B1
 go_wp2
 go_ret
 have hE := owI_block (w := W2) (base := w.heap.size) (xs := List.replicate k (0 : Int) ++ [1]) (Nat.le_refl _) (zi_vpol k) (by unfold maxLen; simp; omega) HG2.out
 have hl : (List.replicate k (0 : Int) ++ [1]).length = k + 1 := by simp
 rw [hl] at hE
 exact ⟨_, rfl, om_one B2.out.size hE, zS (zS B2.out (zA _)) (zA _)⟩
def VM (w : World) (base b : Nat) (vs : List Int) (k : Nat) : Prop :=
 ∃ L, MapV w b L ∧ L.length = k ∧ (∀ c u, L.lookup c = some u → ∃ i, i < k ∧ vs[i]? = some (-1 - c) ∧ OM w base u (vpol i)) ∧ ∀ i v, i < k → vs[i]? = some v → (L.lookup (-1 - v)).isSome = true
theorem VM.later {w w' : World} {base b k : Nat} {vs : List Int} (h : VM w base b vs k) (hb : Below w.heap.size w w') : VM w' base b vs k := by
 obtain ⟨L, h1, h2, h3, h4⟩ := h
 refine ⟨L, h1.later hb, h2, fun c u hc => ?_, h4⟩
 obtain ⟨i, i1, i2, i3⟩ := h3 c u hc
 exact ⟨i, i1, i2, i3.later hb⟩
structure MgM (w : World) (base gS b : Nat) (sig : List Sy) (l : List Ip) (vs : List Int) : Prop where
 sym : ∃ vals, VB w gS vals ∧ vals.length = sig.length ∧ ∀ c, c < sig.length → ∃ u, vals[c]? = some u ∧ Ms w u (spol l (c : Int))
 var : VM w base b vs vs.length
theorem MgM.later {w w' : World} {base gS b : Nat} {sig : List Sy} {l : List Ip} {vs : List Int} (h : MgM w base gS b sig l vs) (hb : Below w.heap.size w w') : MgM w' base gS b sig l vs := by
 obtain ⟨vals, h1, h2, h3⟩ := h.sym
 refine ⟨⟨vals, h1.later hb, h2, fun c hc => ?_⟩, h.var.later hb⟩
 obtain ⟨u, u1, u2⟩ := h3 c hc
 exact ⟨u, u1, u2.kp (zK hb)⟩
theorem under_vmap : Tryz.prog.underlying 83 = some (.map 3 31) := by kernel_rfl
theorem zero_monos (w : World) : (zeroValue 31).run Tryz.prog w = .ok (.slice none 0 0) w := by kernel_rfl
theorem VM.store {w : World} {base b k : Nat} {vs : List Int} {v : Int} {u : Value} (h : VM w base b vs k) (hn : vs.Nodup) (hv : vs[k]? = some v) (h1 : 0 ≤ v) (h2 : v ≤ 1048576) (hk : k < 512) (hu : OM w base u (vpol k)) :
  ∃ w', (Instr.mapUpdate 83 (.map (some b)) (.int .i64 (-1 - v)) u).run Tryz.prog w = .ok () w' ∧ VM w' base b vs (k + 1) ∧ w.grownBy w' (some b) := by
 obtain ⟨L, m1, m2, m3, m4⟩ := h
 have hno : L.lookup (-1 - v) = none := by
  cases hc : L.lookup (-1 - v) with
  | none => rfl
  | some u' =>
   obtain ⟨i, i1, i2, _⟩ := m3 _ _ hc
   rw [show -1 - (-1 - v) = v by omega] at i2
   have e1 := idx_of hn i2
   have e2 := idx_of hn hv
   omega
 obtain ⟨w', r1, r2, r3⟩ := m1.store under_vmap (k := -1 - v) (by omega) (by omega) hno (by rw [m2]; unfold maxLen; omega) u
 obtain ⟨es, clock, hb⟩ := m1.isMap
 refine ⟨w', r1, ⟨_, r2, by rw [zG, m2], fun c u' hc => ?_, fun i x hi hx => ?_⟩, r3⟩
 ·rw [List.lookup_cons] at hc
  by_cases e : c = -1 - v
  ·subst e
   simp at hc
   subst hc
   exact ⟨k, by omega, by rw [show -1 - (-1 - v) = v by omega]; exact hv, hu.mapped hb r3⟩
  rw [show (c == -1 - v) = false by simpa using e] at hc
  obtain ⟨i, i1, i2, i3⟩ := m3 c u' hc
  exact ⟨i, by omega, i2, i3.mapped hb r3⟩
 rw [List.lookup_cons]
 by_cases e : -1 - x = -1 - v
 ·rw [show (-1 - x == -1 - v) = true by simpa using e]
  rfl
 rw [show (-1 - x == -1 - v) = false by simpa using e]
 refine m4 i x ?_ hx
 rcases Nat.lt_succ_iff_lt_or_eq.1 hi with h | h
 ·exact h
 subst h
 rw [hv] at hx
 cases hx
 exact absurd rfl e
def MC (w : World) (gm : Nat) (sv : Value) (gS n b : Nat) : Prop := w.heap[gm]? = some (.cells #[sv, .slice (some ⟨gS, 0, none⟩) n n, .map (some b)] 85 (0, 0))
theorem MC.lt {w : World} {gm : Nat} {sv : Value} {gS n b : Nat} (h : MC w gm sv gS n b) : gm < w.heap.size := (zL.1 h).1
theorem MC.cells {w : World} {gm : Nat} {sv : Value} {gS n b : Nat} (h : MC w gm sv gS n b) : w.cell? ⟨gm, 0, none⟩ = some sv ∧ w.cell? ⟨gm, 1, none⟩ = some (.slice (some ⟨gS, 0, none⟩) n n) ∧ w.cell? ⟨gm, 2, none⟩ = some (.map (some b)) :=
 ⟨by rw [cell_of_row _ _ _ _ _ _ h]; rfl, by rw [cell_of_row _ _ _ _ _ _ h]; rfl, by rw [cell_of_row _ _ _ _ _ _ h]; rfl⟩
theorem MC.later {w w' : World} {gm : Nat} {sv : Value} {gS n b : Nat} (h : MC w gm sv gS n b) (hb : Below w.heap.size w w') : MC w' gm sv gS n b := (hb.block gm h.lt).trans h
theorem MC.held {w w' : World} {gm : Nat} {sv : Value} {gS n b : Nat} {row : Option Nat} (h : MC w gm sv gS n b) (hg : w.grownBy w' row) (hr : some gm ≠ row) : MC w' gm sv gS n b := (hg.block gm h.lt hr).trans h
theorem MC.setVB {w : World} {gm : Nat} {sv u : Value} {gS n b g k : Nat} {vals : List Value} (h : MC w gm sv gS n b) (hg : VB w g vals) : MC (w.setCell ⟨g, k, none⟩ u) gm sv gS n b :=
 h.held (xEJ w g k u) (fun e => by
  cases e
  unfold MC at h
  unfold VB at hg
  rw [h] at hg
  simp only [zX, Obj.cells.injEq] at hg
  exact absurd hg.2.1 (by decide))
theorem xEW {w : World} {base n g : Nat} {e ty : TypeId} {s : Nat} {v : Value} {xs : List Value} {cs : Array Value} {fr : Nat × Nat} (h : w.ownsRow base e s v n xs) (hg : w.heap[g]? = some (.cells cs ty fr)) (hne : e ≠ ty) : v.ownBlock = none ∨ v.ownBlock ≠ some g := by
 rcases h.2 with ⟨rfl, _⟩ | ⟨g', cap, cur, rfl, _, hg', _⟩
 ·exact .inl rfl
 refine .inr ?_
 simp only [Value.ownBlock]
 intro e
 cases e
 rw [hg] at hg'
 simp only [zX, Obj.cells.injEq] at hg'
 exact hne hg'.2.1.symm
theorem OM.heldAt {w w' : World} {base g : Nat} {v : Value} {p : List Mn} {cs : Array Value} {ty : TypeId} {fr : Nat × Nat} (h : OM w base v p) (hg : w.grownBy w' (some g)) (hb : w.heap[g]? = some (.cells cs ty fr)) (h1 : 37 ≠ ty) (h2 : 38 ≠ ty) (h3 : 3 ≠ ty) : OM w' base v p := by
 obtain ⟨cs, hl, hc, ho⟩ := h
 refine ⟨cs, hl, fun i c m i1 i2 => ?_, World.ownsRow.kept ho hg (xEW ho hb h1)⟩
 obtain ⟨o1, o2⟩ := hc i c m i1 i2
 exact ⟨o1.held hg (xEW o1.2 hb h2), o2.kept hg (xEW o2.2 hb h3)⟩
theorem VM.heldAt {w w' : World} {base b k g : Nat} {vs : List Int} {cs : Array Value} {fr : Nat × Nat} (h : VM w base b vs k) (hg : w.grownBy w' (some g)) (hb : w.heap[g]? = some (.cells cs 85 fr)) : VM w' base b vs k := by
 obtain ⟨L, h1, h2, h3, h4⟩ := h
 refine ⟨L, h1.kept hg (fun e => ?_), h2, fun c u hc => ?_, h4⟩
 ·obtain ⟨es, clock, hm⟩ := h1.isMap
  cases e
  rw [hb] at hm
  cases hm
 obtain ⟨i, i1, i2, i3⟩ := h3 c u hc
 exact ⟨i, i1, i2, i3.heldAt hg hb (by decide) (by decide) (by decide)⟩
theorem grown_set3 (w : World) (g : Nat) (a b c : Value) : w.grownBy (((w.setCell ⟨g, 0, none⟩ a).setCell ⟨g, 1, none⟩ b).setCell ⟨g, 2, none⟩ c) (some g) :=
 ⟨rfl, rfl, rfl, by simp, fun j _ hj => by
  have hne : j ≠ g := fun e => hj (by rw [e])
  rw [Below.heap_setCell _ ⟨g, 2, none⟩ c j hne, Below.heap_setCell _ ⟨g, 1, none⟩ b j hne, Below.heap_setCell _ ⟨g, 0, none⟩ a j hne]⟩
theorem xFS (sv lv vv : Value) (vs : List Int) (w : World) (hv : Is w vv vs) (hbig : 512 < vs.length) :
  Calls Tryz.prog 46 #[sv, lv, vv] w fun e w' => e = .returned (.tuple #[.agg #[.slice none 0 0, .slice none 0 0, .map none], .int .i64 2]) ∧ Below w.heap.size w w' := by
 obtain ⟨vo, vc, rfl, hvo, hvc, _⟩ := Row.flat hv
 have hd : decide ((512 : Int) < (vs.length : Int)) = true := decide_eq_true (by omega)
 have hd2 : decide (512 < vs.length) = true := decide_eq_true hbig
 clear hv
 go_enter Tryz.func46, Tryz.ntmps46
 go_wp2
 refine bodyPost_ret (results_cell (t := 6) (u := 7) (ty := 85) (ad := ⟨w.heap.size, 0, none⟩) (v := .agg #[.slice none 0 0, .slice none 0 0, .map none]) rfl rfl (by go_simp)) rfl ?_
 exact ⟨rfl, zA _⟩
theorem xFT (sv lv vv : Value) (sig : List Sy) (l : List Ip) (vs : List Int) (w : World) (hs : Sg w sv sig) (hl : Ins w lv l) (hv : Is w vv vs) (hin : inE sig l = 0) (hnd : vs.Nodup) (hr : ∀ v ∈ vs, 0 ≤ v ∧ v ≤ 1048576) (hsm : vs.length ≤ 512) (hsl : sig.length ≤ 1000) :
  Calls Tryz.prog 46 #[sv, lv, vv] w fun e w' => ∃ gS b, e = .returned (.tuple #[.agg #[sv, .slice (some ⟨gS, 0, none⟩) sig.length sig.length, .map (some b)], .int .i64 0]) ∧ MgM w' w.heap.size gS b sig l vs ∧ Below w.heap.size w w' := by
 obtain ⟨so, sc, rfl, hso, hsc, _⟩ := Row.flat hs
 obtain ⟨lo, lc, rfl, hlo, hlc, _⟩ := Row.flat hl
 obtain ⟨vo, vc, rfl, hvo, hvc, _⟩ := Row.flat hv
 unfold maxLen at hsc hlc hvc
 have HL := hid hl
 have HV := hid hv
 have HIn := hid (inE_ok hin).2
 have HNd := hid hnd
 have HR := hid hr
 have HNp := hid (in_nodup hin)
 have hd : decide ((512 : Int) < (vs.length : Int)) = false := decide_eq_false (by omega)
 have hd2 : decide (512 < vs.length) = false := decide_eq_false (by omega)
 clear hs hl hv hin hnd hr
 obtain ⟨W0, hW0⟩ : ∃ X, X = w.alloc (.cells #[.slice none 0 0, .slice none 0 0, .map none] 85) := ⟨_, rfl⟩
 have B0 : Hid (Below w.heap.size w W0) := by rw [hW0]; exact zA _
 have R0 : Hid (W0.heap[w.heap.size]? = some (.cells #[.slice none 0 0, .slice none 0 0, .map none] 85 (0, 0))) := by rw [hW0]; exact hid (yU _ _)
 go_enter Tryz.func46, Tryz.ntmps46
 go_upto_region 3 with fail
 rw [← hW0]
 clear hW0
 have hmk := xFP W0 sig.length (by omega)
 obtain ⟨W1, hW1⟩ : ∃ X, X = W0.alloc (.cells (List.replicate sig.length (Value.slice none 0 0)).toArray 31) := ⟨_, rfl⟩
 have B1 : Hid (Below W0.heap.size W0 W1) := by rw [hW1]; exact zA _
 have V1 : Hid (VB W1 W0.heap.size (List.replicate sig.length (Value.slice none 0 0))) := by rw [hW1]; exact hid (yU _ _)
 rw [← hW1] at hmk
 clear hW1
 obtain ⟨W2, hW2⟩ : ∃ X, X = (W1.alloc (.map #[] 0)).alloc (.cells #[.slice so sig.length sc, .slice (some ⟨W0.heap.size, 0, none⟩) sig.length sig.length, .map (some W1.heap.size)] 85) := ⟨_, rfl⟩
 have B2 : Hid (Below W1.heap.size W1 W2) := by rw [hW2]; exact zS (zA _) (zA _)
 have M2 : Hid (MapV W2 W1.heap.size []) := by rw [hW2]; exact hid ((MapV.made W1).later (zA _))
 have C2 : Hid (MC W2 (W1.heap.size + 1) (.slice so sig.length sc) W0.heap.size sig.length W1.heap.size) := by
  have h := yU (W1.alloc (.map #[] 0)) (.cells #[.slice so sig.length sc, .slice (some ⟨W0.heap.size, 0, none⟩) sig.length sig.length, .map (some W1.heap.size)] 85)
  rw [World.size_alloc] at h
  rw [hW2]
  exact h
 have hmm := @run_makeMap Tryz.prog
 go_upto_region 4 with fail
 rw [← hW2]
 clear hW2 hmk hmm
 have BW : Hid (Below w.heap.size w W2) := hid (zS (zS B0.out B1.out) B2.out)
 have V2 := hid (V1.out.later B2.out)
 have R2 : Hid (W2.heap[w.heap.size]? = some (.cells #[.slice none 0 0, .slice none 0 0, .map none] 85 (0, 0))) := by
  have h0 : w.heap.size < W0.heap.size := (zL.1 R0.out).1
  exact (B2.out.block _ (Nat.lt_of_lt_of_le h0 B1.out.size)).trans ((B1.out.block _ h0).trans R0.out)
 have hgS : w.heap.size ≤ W0.heap.size := B0.out.size
 have hgb : w.heap.size ≤ W1.heap.size := Nat.le_trans hgS B1.out.size
 have hne : w.heap.size ≠ W0.heap.size := Nat.ne_of_lt (zL.1 R0.out).1
 have hne2 : w.heap.size ≠ W1.heap.size := Nat.ne_of_lt (Nat.lt_of_lt_of_le (zL.1 R0.out).1 B1.out.size)
 generalize W0.heap.size = gS at V2 C2 hgS hne ⊢
 generalize W1.heap.size = b at M2 C2 hgb hne2 ⊢
 clear V1 R0 B0 B1 B2
 generalize hgm : b + 1 = gm at C2 ⊢
 have HGm := hid hgm
 clear hgm
 go_wp2
 go_loopw [25] (fun x wr => ∃ (k : Nat) (vals : List Value), k ≤ l.length ∧ x = .int .i64 k ∧ VB wr gS vals ∧ vals.length = sig.length ∧ (∀ c, c < sig.length → ∃ u, vals[c]? = some u ∧ Ms w u (spol (l.take k).reverse (c : Int))) ∧ MapV wr b [] ∧ MC wr gm (.slice so sig.length sc) gS sig.length b ∧ wr.heap[w.heap.size]? = some (.cells #[.slice none 0 0, .slice none 0 0, .map none] 85 (0, 0)) ∧ Below w.heap.size w wr) (fun x _ => l.length - (intOf x).toNat)
 case atStart => exact ⟨0, _, Nat.zero_le _, rfl, V2.out, by simp, fun c hc => ⟨_, by rw [List.getElem?_replicate, if_pos hc], Row.nil (Nat.zero_le _)⟩, M2.out, C2.out, R2.out, BW.out⟩
 case round =>
  clear V2 M2 C2 R2 BW
  obtain ⟨k, vals, hk, rfl, hvb, hvl, hvs, hmv, hmc, hrc, hbl⟩ := hrel
  have HVB := hid hvb
  have HVl := hid hvl
  have HVs := hid hvs
  have HMv := hid hmv
  have HMC := hid hmc
  have HRc := hid hrc
  have BL := hid hbl
  clear hvb hvl hvs hmv hmc hrc hbl
  by_cases hlt : k < l.length
  ·obtain ⟨g, off, c, p, a1, c1, rfl, hm, hc0w, hc1w, hp, hcl, hcu, hp1, hp2⟩ := HL.out.at hlt
   have hmem : (c, p) ∈ l := zD hm
   obtain ⟨ci, hci⟩ := Int.eq_ofNat_of_zero_le (HIn.out _ hmem).1
   have hlt2 := (HIn.out _ hmem).2.1
   simp only at hci hlt2
   subst hci
   have hcs : ci < sig.length := by omega
   have HM := hid hm
   have HP := hid hp
   have hc0 := (zK BL.out).cell _ _ hc0w
   have hc1 := (zK BL.out).cell _ _ hc1w
   have hgw : g < wr.heap.size := yJ _ _ hc0
   obtain ⟨W, hW⟩ : ∃ X, X = wr.alloc (.cells #[.int .i64 (ci : Int), .slice a1 p.length c1] 51) := ⟨_, rfl⟩
   have BX : Hid (Below wr.heap.size wr W) := by rw [hW]; exact zA _
   have y0 : W.cell? ⟨wr.heap.size, 0, none⟩ = some (.int .i64 (ci : Int)) := by rw [hW, cell_of_row _ _ _ _ _ _ (yU _ _)]; rfl
   have y1 : W.cell? ⟨wr.heap.size, 1, none⟩ = some (.slice a1 p.length c1) := by rw [hW, cell_of_row _ _ _ _ _ _ (yU _ _)]; rfl
   have BLW := hid (zS BL.out BX.out)
   have HVW := hid (HVB.out.later BX.out)
   have HMW := hid (HMC.out.later BX.out)
   have HMvW := hid (HMv.out.later BX.out)
   have HRW : Hid (W.heap[w.heap.size]? = some (.cells #[.slice none 0 0, .slice none 0 0, .map none] 85 (0, 0))) := hid ((BX.out.block _ (zL.1 HRc.out).1).trans HRc.out)
   clear hm hp hc0w hc1w hmem
   go_upto_region 7 with fail
   rw [← hW]
   clear hW hc0 hc1
   generalize wr.heap.size = gb at y0 y1 ⊢
   have y2 := HMW.out.cells.2.1
   obtain ⟨u0, hu0, _⟩ := HVs.out ci hcs
   have hcg := HVW.out.cell hu0
   have hfr := HVW.out.frozen ci
   obtain ⟨W3, hW3⟩ : ∃ X, X = W.setCell ⟨gS, ci, none⟩ (.slice a1 p.length c1) := ⟨_, rfl⟩
   have HV3 : Hid (VB W3 gS (vals.set ci (.slice a1 p.length c1))) := by rw [hW3]; exact hid (HVW.out.set _ _)
   have HMC3 : Hid (MC W3 gm (.slice so sig.length sc) gS sig.length b) := by rw [hW3]; exact hid (HMW.out.setVB HVW.out)
   have HMv3 : Hid (MapV W3 b []) := by
    rw [hW3]
    refine hid (HMvW.out.kept (xEJ W gS ci _) (fun e => ?_))
    obtain ⟨es, clock, hb⟩ := HMvW.out.isMap
    cases e
    have h9 := HVW.out
    unfold VB at h9
    rw [h9] at hb
    cases hb
   have HR3 : Hid (W3.heap[w.heap.size]? = some (.cells #[.slice none 0 0, .slice none 0 0, .map none] 85 (0, 0))) := by
    rw [hW3]
    exact hid ((Below.heap_setCell W ⟨gS, ci, none⟩ _ _ hne).trans HRW.out)
   have B3 : Hid (Below w.heap.size w W3) := by rw [hW3]; exact BLW.out.setCell (p := ⟨gS, ci, none⟩) hgS _
   have HVs3 : Hid (∀ c, c < sig.length → ∃ u, (vals.set ci (.slice a1 p.length c1))[c]? = some u ∧ Ms w u (spol (l.take (k + 1)).reverse (c : Int))) := fun c hc => by
    rw [xAM HM.out, List.reverse_append]
    show ∃ u, _ ∧ Ms w u (spol (((ci : Int), p) :: (l.take k).reverse) (c : Int))
    rw [spol]
    by_cases e : (ci : Int) = (c : Int)
    ·have e2 : ci = c := by omega
     subst e2
     rw [if_pos rfl]
     refine ⟨_, ?_, HP.out⟩
     rw [List.getElem?_set_self (by rw [HVl.out]; exact hcs)]
    rw [if_neg e, List.getElem?_set_ne (by omega)]
    exact HVs.out c hc
   have HVl3 : Hid ((vals.set ci (.slice a1 p.length c1)).length = sig.length) := by show _ = _; rw [yF]; exact HVl.out
   clear HVs HVB HMC HMv HRc BL BX BLW HMW HMvW HRW HVl
   go_upto_region 8 with fail
   rw [← hW3]
   clear hW3 hcg hfr y0 y1 y2 hu0 HVW
   go_wp2
   go_roundw
   case rel => exact ⟨k + 1, _, hlt, by go_num, HV3.out, HVl3.out, HVs3.out, HMv3.out, HMC3.out, HR3.out, B3.out⟩
   case measure => simp [intOf]; omega
  have hke : k = l.length := by omega
  have HVs2 : Hid (∀ c, c < sig.length → ∃ u, vals[c]? = some u ∧ Ms w u (spol l (c : Int))) := fun c hc => by
   obtain ⟨u, u1, u2⟩ := HVs.out c hc
   rw [hke, List.take_length, spol_rev HNp.out] at u2
   exact ⟨u, u1, u2⟩
  have HVM : Hid (VM wr w.heap.size b vs 0) := ⟨[], HMv.out, rfl, fun c u h => (by cases h), fun i v h => absurd h (by omega)⟩
  clear HVs HMv hke
  go_wp2
  obtain ⟨wk, hwk⟩ : ∃ X, X = wr := ⟨_, rfl⟩
  rw [← hwk] at HVB HMC HRc BL HVM ⊢
  clear hwk
  go_loopw [39] (fun x wr => ∃ j : Nat, j ≤ vs.length ∧ x = .int .i64 j ∧ VB wr gS vals ∧ VM wr w.heap.size b vs j ∧ MC wr gm (.slice so sig.length sc) gS sig.length b ∧ wr.heap[w.heap.size]? = some (.cells #[.slice none 0 0, .slice none 0 0, .map none] 85 (0, 0)) ∧ Below w.heap.size w wr) (fun x _ => vs.length - (intOf x).toNat)
  case atStart => exact ⟨0, Nat.zero_le _, rfl, HVB.out, HVM.out, HMC.out, HRc.out, BL.out⟩
  case round =>
   clear HVB HVM HMC HRc BL
   obtain ⟨j, hj, rfl, hvb, hvm, hmc, hrc, hbl⟩ := hrel
   have HVB := hid hvb
   have HVM := hid hvm
   have HMC := hid hmc
   have HRc := hid hrc
   have BL := hid hbl
   clear hvb hvm hmc hrc hbl
   by_cases hjl : j < vs.length
   ·obtain ⟨g, off, v, rfl, hv1, hv2, hv3, hv4⟩ := HV.out.at hjl
    have hvr := HR.out v (zD hv1)
    have HVj := hid hv1
    have hcv := (zK BL.out).cell _ _ hv2
    have hgw : g < wr.heap.size := yJ _ _ hcv
    have y2 := HMC.out.cells.2.2
    have HWv : Hid (IntKind.i64.wrap (-1 - v) = -1 - v) := hid (yA _ ⟨by omega, by omega⟩)
    clear hv1 hv2 hv3 hv4
    go_upto_region 12 with fail
    clear hcv
    have hS : Kp wr wr.drew := zK (xAG wr)
    refine wp_region_held_drew (S := fun w' => Kp wr w') (by kernel_rfl) hS (fun _ => ?_)
    obtain ⟨W0, hW0⟩ : ∃ X, X = wr.drew := ⟨_, rfl⟩
    have bW0 : Below wr.heap.size wr W0 := by rw [hW0]; exact xAG wr
    rw [← hW0] at hS ⊢
    clear hW0
    refine wpAnyH_take (i := 0) (v := .pointer (some ⟨gm, 2, none⟩)) rfl (by kernel_rfl) (by kernel_rfl) (by kernel_rfl) (fun _ _ _ h => h) (Or.inl ⟨by rfl, fun w' h => by go_simp⟩) hS ?_
    simp only [Act.put, sA]
    refine wpAnyH_take (i := 1) (v := .map (some b)) rfl (by kernel_rfl) (by kernel_rfl) (by kernel_rfl) (fun _ _ _ h => h) (Or.inl ⟨by rfl, fun w' h => by have hh := h.cell _ _ y2; go_simp⟩) hS ?_
    simp only [Act.put]
    refine wpAnyH_take (i := 2) (v := .int .i64 v) rfl (by kernel_rfl) (by kernel_rfl) (by kernel_rfl) (fun _ _ _ h => h) (Or.inl ⟨by rfl, fun w' h => by go_simp⟩) hS ?_
    simp only [Act.put]
    refine wpAnyH_take (i := 3) (v := .int .i64 (-1 - v)) rfl (by kernel_rfl) (by kernel_rfl) (by kernel_rfl) (fun _ _ _ h => h) (Or.inl ⟨by rfl, fun w' h => by have hh := HWv.out; go_simp⟩) hS ?_
    simp only [Act.put]
    refine wpAnyH_take (i := 4) (v := .int .i64 (j : Int)) rfl (by kernel_rfl) (by kernel_rfl) (by kernel_rfl) (fun _ _ _ h => h) (Or.inl ⟨by rfl, fun w' h => by go_simp⟩) hS ?_
    simp only [Act.put]
    refine wpAnyH_ready (rs := [5]) (by kernel_rfl) (by simp) (AllReadyH.cons rfl (fun K hK => ?_) (AllReadyH.nil))
    go_simp
    refine (variable_any j W0 (by omega)).mono ?_
    rintro e w4 ⟨uv, rfl, ho4, hb4⟩
    have b4 := zS bW0 hb4
    obtain ⟨ao, cap, rfl⟩ := ho4.slice
    have hb0 : w.heap.size ≤ W0.heap.size := Nat.le_trans BL.out.size bW0.size
    obtain ⟨w5, hru, hvm5, hg5⟩ := (HVM.out.later b4).store HNd.out HVj.out hvr.1 hvr.2 (by omega) (ho4.mono hb0)
    obtain ⟨L9, m9, _⟩ := HVM.out.later b4
    obtain ⟨es9, ck9, hes9⟩ := m9.isMap
    have HVM5 := hid hvm5
    have HVB5 := hid ((HVB.out.later b4).held hg5 (fun e => by
     cases e
     have h9 := HVB.out.later b4
     unfold VB at h9
     rw [h9] at hes9
     cases hes9))
    have HMC5 := hid ((HMC.out.later b4).held hg5 (fun e => by
     cases e
     have h9 := HMC.out.later b4
     unfold MC at h9
     rw [h9] at hes9
     cases hes9))
    have HR5 : Hid (w5.heap[w.heap.size]? = some (.cells #[.slice none 0 0, .slice none 0 0, .map none] 85 (0, 0))) := by
     have h1 := (b4.block _ (zL.1 HRc.out).1).trans HRc.out
     exact hid ((hg5.block _ (zL.1 h1).1 (by simpa using hne2)).trans h1)
    have B5 := hid ((zS BL.out b4).grown hg5 (zS BL.out b4).size (fun i hi => by cases hi; exact hgb))
    have hS4 : Kp wr w4 := zK b4
    have hS5 : Kp wr w5 := hS4.trans (Kp.of_map hg5 hes9)
    refine hK.out _ _ hS4 (fun _ => ?_)
    clear hK K hS
    try simp only [Act.put, sA, sB, sC]
    refine wpAnyH_ready (rs := [6]) (by kernel_rfl) (by simp) (AllReadyH.cons rfl (fun K hK => ?_) AllReadyH.nil)
    go_simp
    refine hK.out _ _ hS5 (fun _ => ?_)
    clear hK K hru
    refine wpAnyH_done (by kernel_rfl) ?_ _
    clear hS4 hS5 HVM HVB HMC HRc BL bW0 hb4 b4 ho4 hvm5 hg5 m9 hes9 y2
    go_wp2
    go_roundw
    case rel => exact ⟨j + 1, hjl, by go_num, HVB5.out, HVM5.out, HMC5.out, HR5.out, B5.out⟩
    case measure => simp [intOf]; omega
   have hje : j = vs.length := by omega
   have y0 := HMC.out.cells.1
   have y1 := HMC.out.cells.2.1
   have y2 := HMC.out.cells.2.2
   have z0 : wr.cell? ⟨w.heap.size, 0, none⟩ = some (.slice none 0 0) := by rw [cell_of_row _ _ _ _ _ _ HRc.out]; rfl
   have z1 : wr.cell? ⟨w.heap.size, 1, none⟩ = some (.slice none 0 0) := by rw [cell_of_row _ _ _ _ _ _ HRc.out]; rfl
   have z2 : wr.cell? ⟨w.heap.size, 2, none⟩ = some (.map none) := by rw [cell_of_row _ _ _ _ _ _ HRc.out]; rfl
   have f0 : wr.frozen? ⟨w.heap.size, 0, none⟩ = false := frozen_of_row wr _ _ _ _ HRc.out
   have f1 : wr.frozen? ⟨w.heap.size, 1, none⟩ = false := frozen_of_row wr _ _ _ _ HRc.out
   have f2 : wr.frozen? ⟨w.heap.size, 2, none⟩ = false := frozen_of_row wr _ _ _ _ HRc.out
   go_wp2
   refine bodyPost_ret (results_cell (t := 6) (u := 7) (ty := 85) (ad := ⟨w.heap.size, 0, none⟩) (v := .agg #[.slice so sig.length sc, .slice (some ⟨gS, 0, none⟩) sig.length sig.length, .map (some b)]) rfl rfl (by go_simp)) rfl ?_
   have hg := grown_set3 wr w.heap.size (.slice so sig.length sc) (.slice (some ⟨gS, 0, none⟩) sig.length sig.length) (.map (some b))
   have hBf : Below w.heap.size w (((wr.setCell ⟨w.heap.size, 0, none⟩ (.slice so sig.length sc)).setCell ⟨w.heap.size, 1, none⟩ (.slice (some ⟨gS, 0, none⟩) sig.length sig.length)).setCell ⟨w.heap.size, 2, none⟩ (.map (some b))) := BL.out.grown hg BL.out.size (fun i hi => by cases hi; exact Nat.le_refl _)
   subst hje
   exact ⟨gS, b, rfl, ⟨⟨vals, HVB.out.held hg (by simpa using Ne.symm hne), HVl.out, fun c hc => (by
    obtain ⟨u, u1, u2⟩ := HVs2.out c hc
    exact ⟨u, u1, u2.kp (zK hBf)⟩)⟩, HVM.out.heldAt hg HRc.out⟩, hBf⟩
end Go.Proofs.YtdjmjhlbjcgoiaaGreatDoor
