/- The document's examples at the head of layer 2's statements: they come out true. -/
import Derived.Test.YtfifgmcjilkigaaPSame
import Derived.Test.YtfifgmcjilkigaaPEx
namespace Go.Proofs.Ytfifgmcjilkigaa
open Go.RowKit Go.Maps

theorem Ms.shape {w : World} {v : Value} {p : List Mn} (h : Ms w v p) : ∃ a n c, v = .slice a n c := by
  obtain ⟨ao, cap, rfl, _⟩ := Row.flat h
  exact ⟨_, _, _, rfl⟩

theorem kp_a {w : World} {o : Obj} : Kp w (w.alloc o) := Kp.of_below (below_alloc o)

theorem kp_drawn {w w' : World} {n : Nat} (h : w' = w.drewN n) : Kp w w' := by rw [h]; exact Kp.drewN _ _

theorem below_drawn {w w' : World} {n : Nat} (h : w' = w.drewN n) : Below w.heap.size w w' := by rw [h]; exact below_drewN (Below.refl _ _) n

theorem sl_oneN {w : World} {g x : Nat} (hx : x < 4294967296) (h : w.cell? ⟨g, 0, none⟩ = some (.int .u32 (x : Int))) : Sl w (.slice (some ⟨g, 0, none⟩) 1 1) [x] := by
  refine ⟨by intro y hy; simp at hy; omega, _, 1, rfl, by simp, by simp [maxLen], fun _ => ⟨g, 0, rfl, World.block_lt_of_cell? w _ h, ?_⟩⟩
  intro k y hk
  have hlt := (List.getElem?_eq_some_iff.1 hk).1
  match k, hlt with
  | 0, _ =>
    simp only [List.getElem?_cons_zero, Option.some.injEq] at hk
    subst hk
    exact h

theorem is_oneI {w : World} {g : Nat} {a : Int} (ha : -9223372036854775808 ≤ a ∧ a ≤ 9223372036854775807) (h : w.cell? ⟨g, 0, none⟩ = some (.int .i64 a)) : Is w (.slice (some ⟨g, 0, none⟩) 1 1) [a] := by
  refine ⟨_, 1, rfl, by simp, by simp [maxLen], fun _ => ⟨g, 0, rfl, World.block_lt_of_cell? w _ h, ?_⟩⟩
  intro k x hk
  have hlt := (List.getElem?_eq_some_iff.1 hk).1
  match k, hlt with
  | 0, _ =>
    simp only [List.getElem?_cons_zero, Option.some.injEq] at hk
    subst hk
    exact ⟨ha.1, ha.2, h⟩

/-- Monomials one behind the other. -/
def EMs (w : World) (g : Nat) : Nat → List Mn → Prop
  | _, [] => True
  | o, m :: r => EM w g o m ∧ EMs w g (o + 2) r

theorem EMs.get {w : World} {g : Nat} : ∀ {p : List Mn} {o k : Nat} {m : Mn}, EMs w g o p → p[k]? = some m → EM w g (o + k * 2) m
  | [], _, _, _, _, h => by simp at h
  | x :: r, o, 0, m, h, hk => by
    simp at hk
    subst hk
    exact h.1
  | x :: r, o, k + 1, m, h, hk => by
    have := EMs.get h.2 (k := k) (by simpa using hk)
    rw [show o + (k + 1) * 2 = o + 2 + k * 2 by omega]
    exact this

theorem ms_lit {w : World} {g n : Nat} {p : List Mn} (hg : g < w.heap.size) (hn : n = p.length ∧ p.length ≤ 9) (h : EMs w g 0 p) : Ms w (.slice (some ⟨g, 0, none⟩) n n) p := by
  obtain ⟨rfl, hl⟩ := hn
  refine ⟨_, p.length, rfl, Nat.le_refl _, by unfold maxLen; omega, fun _ => ⟨g, 0, rfl, hg, fun k m hk => ?_⟩⟩
  have := h.get hk
  rwa [Nat.zero_add] at this ⊢

theorem ps_one {w : World} {g : Nat} {v : Value} {p : List Mn} (h : w.cell? ⟨g, 0, none⟩ = some v) (hp : Ms w v p) : Ps w (.slice (some ⟨g, 0, none⟩) 1 1) [p] := by
  refine ⟨_, 1, rfl, by simp, by simp [maxLen], fun _ => ⟨g, 0, rfl, World.block_lt_of_cell? w _ h, ?_⟩⟩
  intro k x hk
  have hlt := (List.getElem?_eq_some_iff.1 hk).1
  match k, hlt with
  | 0, _ =>
    simp only [List.getElem?_cons_zero, Option.some.injEq] at hk
    subst hk
    exact ⟨v, h, hp⟩

theorem ps_two {w : World} {g : Nat} {v u : Value} {p q : List Mn} (h : w.cell? ⟨g, 0, none⟩ = some v) (h' : w.cell? ⟨g, 1, none⟩ = some u) (hp : Ms w v p) (hq : Ms w u q) : Ps w (.slice (some ⟨g, 0, none⟩) 2 2) [p, q] := by
  refine ⟨_, 2, rfl, by simp, by simp [maxLen], fun _ => ⟨g, 0, rfl, World.block_lt_of_cell? w _ h, ?_⟩⟩
  intro k x hk
  have hlt := (List.getElem?_eq_some_iff.1 hk).1
  match k, hlt with
  | 0, _ =>
    simp only [List.getElem?_cons_zero, Option.some.injEq] at hk
    subst hk
    exact ⟨v, h, hp⟩
  | 1, _ =>
    simp only [List.getElem?_cons_succ, List.getElem?_cons_zero, Option.some.injEq] at hk
    subst hk
    exact ⟨u, h', hq⟩

theorem rs_two {w : World} {g : Nat} {v u : Value} {p q : List Nat} (h : w.cell? ⟨g, 0, none⟩ = some v) (h' : w.cell? ⟨g, 1, none⟩ = some u) (hp : Sl w v p) (hq : Sl w u q) : Rs w (.slice (some ⟨g, 0, none⟩) 2 2) [p, q] := by
  refine ⟨_, 2, rfl, by simp, by simp [maxLen], fun _ => ⟨g, 0, rfl, World.block_lt_of_cell? w _ h, ?_⟩⟩
  intro k x hk
  have hlt := (List.getElem?_eq_some_iff.1 hk).1
  match k, hlt with
  | 0, _ =>
    simp only [List.getElem?_cons_zero, Option.some.injEq] at hk
    subst hk
    exact ⟨v, h, hp⟩
  | 1, _ =>
    simp only [List.getElem?_cons_succ, List.getElem?_cons_zero, Option.some.injEq] at hk
    subst hk
    exact ⟨u, h', hq⟩

set_option maxRecDepth 100000 in
set_option maxHeartbeats 6400000 in
theorem shown_any (w : World) : Calls Try.prog 9 #[] w fun e w' => e = .returned (.bool true) ∧ Below w.heap.size w w' := by
  have HB : Hid (Below w.heap.size w w) := Below.refl _ _
  go_enter Try.func9, Try.ntmps9
  go_wp2_with fail
  refine (x_any _).mono ?_
  rintro e w1 ⟨vx, rfl, mx, hb⟩
  have K := Kp.of_below hb
  have B := hb
  have K2 : Kp w w1 := K
  have HB2 : Hid (Below w.heap.size w w1) := below_step HB.out B
  clear HB
  have HB := HB2
  clear HB2
  clear K2 B hb
  go_wp2_with fail
  refine (one_any _).mono ?_
  rintro e w2 ⟨vi, rfl, mi, hb⟩
  have K := Kp.of_below hb
  have B := hb
  have K2 : Kp w1 w2 := K
  have HB2 : Hid (Below w.heap.size w w2) := below_step HB.out B
  clear HB
  have HB := HB2
  clear HB2
  have mx_ := mx.kp K2
  clear mx
  have mx := mx_
  clear mx_
  clear K2 B hb
  go_wp2_with fail
  refine (padd_any _ _ pX pI _ mx mi).mono ?_
  rintro e w3 ⟨va, rfl, oa, hb⟩
  rw [ex_a.2] at oa
  rw [ex_a.1]
  have ma := oa.ms
  clear oa
  obtain ⟨aa, na, ca, rfl⟩ := ma.shape
  have K := Kp.of_below hb
  have B := hb
  have K2 : Kp w2 w3 := K
  have HB2 : Hid (Below w.heap.size w w3) := below_step HB.out B
  clear HB
  have HB := HB2
  clear HB2
  clear mx
  clear mi
  clear K2 B hb
  go_wp2_with fail
  refine (y_any _).mono ?_
  rintro e w4 ⟨vy, rfl, my, hb⟩
  have K := Kp.of_below hb
  have B := hb
  have K2 : Kp w3 w4 := K
  have HB2 : Hid (Below w.heap.size w w4) := below_step HB.out B
  clear HB
  have HB := HB2
  clear HB2
  have ma_ := ma.kp K2
  clear ma
  have ma := ma_
  clear ma_
  clear K2 B hb
  go_wp2_with fail
  refine (one_any _).mono ?_
  rintro e w5 ⟨vi2, rfl, mi, hb⟩
  have K := Kp.of_below hb
  have B := hb
  have K2 : Kp w4 w5 := K
  have HB2 : Hid (Below w.heap.size w w5) := below_step HB.out B
  clear HB
  have HB := HB2
  clear HB2
  have ma_ := ma.kp K2
  clear ma
  have ma := ma_
  clear ma_
  have my_ := my.kp K2
  clear my
  have my := my_
  clear my_
  clear K2 B hb
  go_wp2_with fail
  refine (padd_any _ _ pY pI _ my mi).mono ?_
  rintro e w6 ⟨vb, rfl, ob, hb⟩
  rw [ex_b.2] at ob
  rw [ex_b.1]
  have mb := ob.ms
  clear ob
  have K := Kp.of_below hb
  have B := hb
  have K2 : Kp w5 w6 := K
  have HB2 : Hid (Below w.heap.size w w6) := below_step HB.out B
  clear HB
  have HB := HB2
  clear HB2
  clear my
  clear mi
  have ma_ := ma.kp K2
  clear ma
  have ma := ma_
  clear ma_
  clear K2 B hb
  go_wp2_with fail
  refine (pmul_any _ _ pA pB _ ma mb).mono ?_
  rintro e w7 ⟨vc, rfl, oc, hb⟩
  rw [ex_c.2] at oc
  rw [ex_c.1]
  have mc := oc.ms
  clear oc
  have K := Kp.of_below hb
  have B := hb
  have K2 : Kp w6 w7 := K
  have HB2 : Hid (Below w.heap.size w w7) := below_step HB.out B
  clear HB
  have HB := HB2
  clear HB2
  clear mb
  have ma_ := ma.kp K2
  clear ma
  have ma := ma_
  clear ma_
  clear K2 B hb
  go_wp2_with fail
  refine (x_any _).mono ?_
  rintro e w8 ⟨vx2, rfl, mx, hb⟩
  obtain ⟨ax, nx, cx, rfl⟩ := mx.shape
  have K := Kp.of_below hb
  have mp : Ms w8 (.slice (some ⟨w7.heap.size + 1 + 1 + 1, 0, none⟩) 2 2) [([3], []), ([2], [1, 1])] := by
    refine Ms.kp ?_ K
    refine ms_lit (by simp; try omega) ⟨rfl, by decide⟩ ⟨⟨.slice (some ⟨w7.heap.size, 0, none⟩) 1 1, .slice none 0 0, ?_, ?_, sl_oneN (by omega) ?_, Row.nil (by simp [maxLen])⟩, ⟨.slice (some ⟨w7.heap.size + 1, 0, none⟩) 1 1, .slice (some ⟨w7.heap.size + 1 + 1, 0, none⟩) 2 2, ?_, ?_, sl_oneN (by omega) ?_, is_two (by omega) (by omega) ?_ ?_⟩, trivial⟩
    all_goals (repeat (first | (refine cell_new (hg := ?_) (hv := rfl); simp; done) | refine cell_old ?_))
  clear K
  have K := Kp.of_below hb
  have B := hb
  have K2 : Kp w7 w8 := ((((kp_a).trans kp_a).trans kp_a).trans kp_a).trans K
  have HB2 : Hid (Below w.heap.size w w8) := below_step (below_step (below_step (below_step (below_step HB.out (below_alloc _)) (below_alloc _)) (below_alloc _)) (below_alloc _)) B
  clear HB
  have HB := HB2
  clear HB2
  have ma_ := ma.kp K2
  clear ma
  have ma := ma_
  clear ma_
  have mc_ := mc.kp K2
  clear mc
  have mc := mc_
  clear mc_
  clear K2 B hb
  go_wp2_with fail
  refine (compose_any _ _ pP [pA, pX] _ (mp.kp kp_a) (ps_two (w := w8.alloc (.cells #[.slice aa na ca, .slice ax nx cx] 22)) (g := w8.heap.size) (cell_new rfl rfl) (cell_new rfl rfl) (ma.kp kp_a) (mx.kp kp_a))).mono ?_
  rintro e w9 ⟨vd, rfl, od, hb⟩
  rw [ex_d.2] at od
  rw [ex_d.1]
  have md := od.ms
  clear od
  have K := Kp.of_below hb
  have B := hb
  have K2 : Kp w8 w9 := (kp_a).trans K
  have HB2 : Hid (Below w.heap.size w w9) := below_step (below_step HB.out (below_alloc _)) B
  clear HB
  have HB := HB2
  clear HB2
  clear ma
  clear mx
  have mc_ := mc.kp K2
  clear mc
  have mc := mc_
  clear mc_
  have mp_ := mp.kp K2
  clear mp
  have mp := mp_
  clear mp_
  clear K2 B hb
  have HR : Hid (Rs (((w9.alloc (.cells #[.int .u32 5] 43)).alloc (.cells #[.int .u32 7] 43)).alloc (.cells #[.slice (some ⟨w9.heap.size, 0, none⟩) 1 1, .slice (some ⟨w9.heap.size + 1, 0, none⟩) 1 1] 36)) (.slice (some ⟨w9.heap.size + 1 + 1, 0, none⟩) 2 2) [[5], [7]]) := rs_two (cell_new (by simp) rfl) (cell_new (by simp) rfl) (sl_oneN (by omega) (by (repeat (first | (refine cell_new (hg := ?_) (hv := rfl); simp; done) | refine cell_old ?_)))) (sl_oneN (by omega) (by (repeat (first | (refine cell_new (hg := ?_) (hv := rfl); simp; done) | refine cell_old ?_))))
  go_wp2_with fail
  refine (value_any _ _ pP [[5], [7]] _ (((mp.kp kp_a).kp kp_a).kp kp_a) HR.out).mono ?_
  rintro e w10 ⟨vv, rfl, sv, hb⟩
  rw [ex_v.2] at sv
  rw [ex_v.1]
  clear HR
  have K := Kp.of_below hb
  have B := hb
  have K2 : Kp w9 w10 := (((kp_a).trans kp_a).trans kp_a).trans K
  have HB2 : Hid (Below w.heap.size w w10) := below_step (below_step (below_step (below_step HB.out (below_alloc _)) (below_alloc _)) (below_alloc _)) B
  clear HB
  have HB := HB2
  clear HB2
  have mc_ := mc.kp K2
  clear mc
  have mc := mc_
  clear mc_
  have mp_ := mp.kp K2
  clear mp
  have mp := mp_
  clear mp_
  have md_ := md.kp K2
  clear md
  have md := md_
  clear md_
  clear K2 B hb
  have ml : Ms (((((((w10.alloc (.cells #[.int .u32 1] 43)).alloc (.cells #[.int .i64 2] 3)).alloc (.cells #[.slice (some ⟨w10.heap.size, 0, none⟩) 1 1, .slice (some ⟨w10.heap.size + 1, 0, none⟩) 1 1] 46)).alloc (.cells #[.int .u32 1] 43)).alloc (.cells #[.int .i64 40] 3)).alloc (.cells #[.slice (some ⟨w10.heap.size + 1 + 1 + 1, 0, none⟩) 1 1, .slice (some ⟨w10.heap.size + 1 + 1 + 1 + 1, 0, none⟩) 1 1] 46)).alloc (.cells #[.slice (some ⟨w10.heap.size + 1 + 1 + 1 + 1 + 1, 0, none⟩) 1 1] 22)) (.slice (some ⟨w10.heap.size + 1 + 1, 0, none⟩) 1 1) [([1], [2])] := by
    refine ms_lit (by simp; try omega) ⟨rfl, by decide⟩ ⟨⟨.slice (some ⟨w10.heap.size, 0, none⟩) 1 1, .slice (some ⟨w10.heap.size + 1, 0, none⟩) 1 1, ?_, ?_, sl_oneN (by omega) ?_, is_oneI (by omega) ?_⟩, trivial⟩
    all_goals (repeat (first | (refine cell_new (hg := ?_) (hv := rfl); simp; done) | refine cell_old ?_))
  have mr : Ms (((((((w10.alloc (.cells #[.int .u32 1] 43)).alloc (.cells #[.int .i64 2] 3)).alloc (.cells #[.slice (some ⟨w10.heap.size, 0, none⟩) 1 1, .slice (some ⟨w10.heap.size + 1, 0, none⟩) 1 1] 46)).alloc (.cells #[.int .u32 1] 43)).alloc (.cells #[.int .i64 40] 3)).alloc (.cells #[.slice (some ⟨w10.heap.size + 1 + 1 + 1, 0, none⟩) 1 1, .slice (some ⟨w10.heap.size + 1 + 1 + 1 + 1, 0, none⟩) 1 1] 46)).alloc (.cells #[.slice (some ⟨w10.heap.size + 1 + 1 + 1 + 1 + 1, 0, none⟩) 1 1] 22)) (.slice (some ⟨w10.heap.size + 1 + 1 + 1 + 1 + 1, 0, none⟩) 1 1) [([1], [40])] := by
    refine ms_lit (by simp; try omega) ⟨rfl, by decide⟩ ⟨⟨.slice (some ⟨w10.heap.size + 1 + 1 + 1, 0, none⟩) 1 1, .slice (some ⟨w10.heap.size + 1 + 1 + 1 + 1, 0, none⟩) 1 1, ?_, ?_, sl_oneN (by omega) ?_, is_oneI (by omega) ?_⟩, trivial⟩
    all_goals (repeat (first | (refine cell_new (hg := ?_) (hv := rfl); simp; done) | refine cell_old ?_))
  go_wp2_with fail
  refine (compose_any _ _ pS [pF] _ ml (ps_one (g := w10.heap.size + 1 + 1 + 1 + 1 + 1 + 1) (cell_new (by simp) rfl) mr)).mono ?_
  rintro e w11 ⟨vj, rfl, oj, hb⟩
  rw [ex_j]
  clear ml mr oj
  have K := Kp.of_below hb
  have B := hb
  have K2 : Kp w10 w11 := (((((((kp_a).trans kp_a).trans kp_a).trans kp_a).trans kp_a).trans kp_a).trans kp_a).trans K
  have HB2 : Hid (Below w.heap.size w w11) := below_step (below_step (below_step (below_step (below_step (below_step (below_step (below_step HB.out (below_alloc _)) (below_alloc _)) (below_alloc _)) (below_alloc _)) (below_alloc _)) (below_alloc _)) (below_alloc _)) B
  clear HB
  have HB := HB2
  clear HB2
  have mc_ := mc.kp K2
  clear mc
  have mc := mc_
  clear mc_
  have mp_ := mp.kp K2
  clear mp
  have mp := mp_
  clear mp_
  have md_ := md.kp K2
  clear md
  have md := md_
  clear md_
  have sv_ := sv.kp K2
  clear sv
  have sv := sv_
  clear sv_
  clear K2 B hb
  have ml : Ms ((((((((w11.alloc (.cells #[.int .u32 1] 43)).alloc (.cells #[.int .i64 2, .int .i64 1] 3)).alloc (.cells #[.slice (some ⟨w11.heap.size, 0, none⟩) 1 1, .slice (some ⟨w11.heap.size + 1, 0, none⟩) 2 2] 46)).alloc (.cells #[.int .u32 1] 43)).alloc (.cells #[.int .i64 40] 3)).alloc (.cells #[.slice (some ⟨w11.heap.size + 1 + 1 + 1, 0, none⟩) 1 1, .slice (some ⟨w11.heap.size + 1 + 1 + 1 + 1, 0, none⟩) 1 1] 46)).alloc (.cells #[] 46)).alloc (.cells #[.slice (some ⟨w11.heap.size + 1 + 1 + 1 + 1 + 1, 0, none⟩) 1 1, .slice (some ⟨w11.heap.size + 1 + 1 + 1 + 1 + 1 + 1, 0, none⟩) 0 0] 22)) (.slice (some ⟨w11.heap.size + 1 + 1, 0, none⟩) 1 1) [([1], [2, 1])] := by
    refine ms_lit (by simp; try omega) ⟨rfl, by decide⟩ ⟨⟨.slice (some ⟨w11.heap.size, 0, none⟩) 1 1, .slice (some ⟨w11.heap.size + 1, 0, none⟩) 2 2, ?_, ?_, sl_oneN (by omega) ?_, is_two (by omega) (by omega) ?_ ?_⟩, trivial⟩
    all_goals (repeat (first | (refine cell_new (hg := ?_) (hv := rfl); simp; done) | refine cell_old ?_))
  have mr : Ms ((((((((w11.alloc (.cells #[.int .u32 1] 43)).alloc (.cells #[.int .i64 2, .int .i64 1] 3)).alloc (.cells #[.slice (some ⟨w11.heap.size, 0, none⟩) 1 1, .slice (some ⟨w11.heap.size + 1, 0, none⟩) 2 2] 46)).alloc (.cells #[.int .u32 1] 43)).alloc (.cells #[.int .i64 40] 3)).alloc (.cells #[.slice (some ⟨w11.heap.size + 1 + 1 + 1, 0, none⟩) 1 1, .slice (some ⟨w11.heap.size + 1 + 1 + 1 + 1, 0, none⟩) 1 1] 46)).alloc (.cells #[] 46)).alloc (.cells #[.slice (some ⟨w11.heap.size + 1 + 1 + 1 + 1 + 1, 0, none⟩) 1 1, .slice (some ⟨w11.heap.size + 1 + 1 + 1 + 1 + 1 + 1, 0, none⟩) 0 0] 22)) (.slice (some ⟨w11.heap.size + 1 + 1 + 1 + 1 + 1, 0, none⟩) 1 1) [([1], [40])] := by
    refine ms_lit (by simp; try omega) ⟨rfl, by decide⟩ ⟨⟨.slice (some ⟨w11.heap.size + 1 + 1 + 1, 0, none⟩) 1 1, .slice (some ⟨w11.heap.size + 1 + 1 + 1 + 1, 0, none⟩) 1 1, ?_, ?_, sl_oneN (by omega) ?_, is_oneI (by omega) ?_⟩, trivial⟩
    all_goals (repeat (first | (refine cell_new (hg := ?_) (hv := rfl); simp; done) | refine cell_old ?_))
  go_wp2_with fail
  refine (compose_any _ _ pT [pF, []] _ ml (ps_two (g := w11.heap.size + 1 + 1 + 1 + 1 + 1 + 1 + 1) (cell_new (by simp) rfl) (cell_new (by simp) rfl) mr (Row.nil (by simp [maxLen])))).mono ?_
  rintro e w12 ⟨vn, rfl, on, hb⟩
  rw [ex_n.2] at on
  rw [ex_n.1]
  obtain ⟨an, cn, rfl⟩ := on.slice
  clear ml mr on
  have K := Kp.of_below hb
  have B := hb
  have K2 : Kp w11 w12 := ((((((((kp_a).trans kp_a).trans kp_a).trans kp_a).trans kp_a).trans kp_a).trans kp_a).trans kp_a).trans K
  have HB2 : Hid (Below w.heap.size w w12) := below_step (below_step (below_step (below_step (below_step (below_step (below_step (below_step (below_step HB.out (below_alloc _)) (below_alloc _)) (below_alloc _)) (below_alloc _)) (below_alloc _)) (below_alloc _)) (below_alloc _)) (below_alloc _)) B
  clear HB
  have HB := HB2
  clear HB2
  have mc_ := mc.kp K2
  clear mc
  have mc := mc_
  clear mc_
  have mp_ := mp.kp K2
  clear mp
  have mp := mp_
  clear mp_
  have md_ := md.kp K2
  clear md
  have md := md_
  clear md_
  have sv_ := sv.kp K2
  clear sv
  have sv := sv_
  clear sv_
  clear K2 B hb
  obtain ⟨WL, hWL⟩ : ∃ WL, WL = ((((((((((((((w12.alloc (.cells #[.int .u32 1] 43)).alloc (.cells #[.int .u32 1] 43)).alloc (.cells #[.int .i64 0, .int .i64 1] 3)).alloc (.cells #[.int .u32 1] 43)).alloc (.cells #[.int .i64 1] 3)).alloc (.cells #[.int .u32 1] 43)).alloc (.cells #[.int .i64 1, .int .i64 1] 3)).alloc (.cells #[.slice (some ⟨w12.heap.size, 0, none⟩) 1 1, .slice none 0 0, .slice (some ⟨w12.heap.size + 1, 0, none⟩) 1 1, .slice (some ⟨w12.heap.size + 1 + 1, 0, none⟩) 2 2, .slice (some ⟨w12.heap.size + 1 + 1 + 1, 0, none⟩) 1 1, .slice (some ⟨w12.heap.size + 1 + 1 + 1 + 1, 0, none⟩) 1 1, .slice (some ⟨w12.heap.size + 1 + 1 + 1 + 1 + 1, 0, none⟩) 1 1, .slice (some ⟨w12.heap.size + 1 + 1 + 1 + 1 + 1 + 1, 0, none⟩) 2 2] 46)).alloc (.cells #[.int .u32 3] 43)).alloc (.cells #[.int .u32 2] 43)).alloc (.cells #[.int .i64 1] 3)).alloc (.cells #[.int .u32 2] 43)).alloc (.cells #[.int .i64 2] 3)).alloc (.cells #[.slice (some ⟨w12.heap.size + 1 + 1 + 1 + 1 + 1 + 1 + 1 + 1, 0, none⟩) 1 1, .slice none 0 0, .slice (some ⟨w12.heap.size + 1 + 1 + 1 + 1 + 1 + 1 + 1 + 1 + 1, 0, none⟩) 1 1, .slice (some ⟨w12.heap.size + 1 + 1 + 1 + 1 + 1 + 1 + 1 + 1 + 1 + 1, 0, none⟩) 1 1, .slice (some ⟨w12.heap.size + 1 + 1 + 1 + 1 + 1 + 1 + 1 + 1 + 1 + 1 + 1, 0, none⟩) 1 1, .slice (some ⟨w12.heap.size + 1 + 1 + 1 + 1 + 1 + 1 + 1 + 1 + 1 + 1 + 1 + 1, 0, none⟩) 1 1] 46)) := ⟨_, rfl⟩
  have mwant : Ms ((((((((((((((w12.alloc (.cells #[.int .u32 1] 43)).alloc (.cells #[.int .u32 1] 43)).alloc (.cells #[.int .i64 0, .int .i64 1] 3)).alloc (.cells #[.int .u32 1] 43)).alloc (.cells #[.int .i64 1] 3)).alloc (.cells #[.int .u32 1] 43)).alloc (.cells #[.int .i64 1, .int .i64 1] 3)).alloc (.cells #[.slice (some ⟨w12.heap.size, 0, none⟩) 1 1, .slice none 0 0, .slice (some ⟨w12.heap.size + 1, 0, none⟩) 1 1, .slice (some ⟨w12.heap.size + 1 + 1, 0, none⟩) 2 2, .slice (some ⟨w12.heap.size + 1 + 1 + 1, 0, none⟩) 1 1, .slice (some ⟨w12.heap.size + 1 + 1 + 1 + 1, 0, none⟩) 1 1, .slice (some ⟨w12.heap.size + 1 + 1 + 1 + 1 + 1, 0, none⟩) 1 1, .slice (some ⟨w12.heap.size + 1 + 1 + 1 + 1 + 1 + 1, 0, none⟩) 2 2] 46)).alloc (.cells #[.int .u32 3] 43)).alloc (.cells #[.int .u32 2] 43)).alloc (.cells #[.int .i64 1] 3)).alloc (.cells #[.int .u32 2] 43)).alloc (.cells #[.int .i64 2] 3)).alloc (.cells #[.slice (some ⟨w12.heap.size + 1 + 1 + 1 + 1 + 1 + 1 + 1 + 1, 0, none⟩) 1 1, .slice none 0 0, .slice (some ⟨w12.heap.size + 1 + 1 + 1 + 1 + 1 + 1 + 1 + 1 + 1, 0, none⟩) 1 1, .slice (some ⟨w12.heap.size + 1 + 1 + 1 + 1 + 1 + 1 + 1 + 1 + 1 + 1, 0, none⟩) 1 1, .slice (some ⟨w12.heap.size + 1 + 1 + 1 + 1 + 1 + 1 + 1 + 1 + 1 + 1 + 1, 0, none⟩) 1 1, .slice (some ⟨w12.heap.size + 1 + 1 + 1 + 1 + 1 + 1 + 1 + 1 + 1 + 1 + 1 + 1, 0, none⟩) 1 1] 46)) (.slice (some ⟨w12.heap.size + 1 + 1 + 1 + 1 + 1 + 1 + 1, 0, none⟩) 4 4) [([1], []), ([1], [0, 1]), ([1], [1]), ([1], [1, 1])] := by
    refine ms_lit (by simp; try omega) ⟨rfl, by decide⟩ ⟨⟨.slice (some ⟨w12.heap.size, 0, none⟩) 1 1, .slice none 0 0, ?_, ?_, sl_oneN (by omega) ?_, Row.nil (by simp [maxLen])⟩, ⟨.slice (some ⟨w12.heap.size + 1, 0, none⟩) 1 1, .slice (some ⟨w12.heap.size + 1 + 1, 0, none⟩) 2 2, ?_, ?_, sl_oneN (by omega) ?_, is_two (by omega) (by omega) ?_ ?_⟩, ⟨.slice (some ⟨w12.heap.size + 1 + 1 + 1, 0, none⟩) 1 1, .slice (some ⟨w12.heap.size + 1 + 1 + 1 + 1, 0, none⟩) 1 1, ?_, ?_, sl_oneN (by omega) ?_, is_oneI (by omega) ?_⟩, ⟨.slice (some ⟨w12.heap.size + 1 + 1 + 1 + 1 + 1, 0, none⟩) 1 1, .slice (some ⟨w12.heap.size + 1 + 1 + 1 + 1 + 1 + 1, 0, none⟩) 2 2, ?_, ?_, sl_oneN (by omega) ?_, is_two (by omega) (by omega) ?_ ?_⟩, trivial⟩
    all_goals (repeat (first | (refine cell_new (hg := ?_) (hv := rfl); simp; done) | refine cell_old ?_))
  have mlaid : Ms ((((((((((((((w12.alloc (.cells #[.int .u32 1] 43)).alloc (.cells #[.int .u32 1] 43)).alloc (.cells #[.int .i64 0, .int .i64 1] 3)).alloc (.cells #[.int .u32 1] 43)).alloc (.cells #[.int .i64 1] 3)).alloc (.cells #[.int .u32 1] 43)).alloc (.cells #[.int .i64 1, .int .i64 1] 3)).alloc (.cells #[.slice (some ⟨w12.heap.size, 0, none⟩) 1 1, .slice none 0 0, .slice (some ⟨w12.heap.size + 1, 0, none⟩) 1 1, .slice (some ⟨w12.heap.size + 1 + 1, 0, none⟩) 2 2, .slice (some ⟨w12.heap.size + 1 + 1 + 1, 0, none⟩) 1 1, .slice (some ⟨w12.heap.size + 1 + 1 + 1 + 1, 0, none⟩) 1 1, .slice (some ⟨w12.heap.size + 1 + 1 + 1 + 1 + 1, 0, none⟩) 1 1, .slice (some ⟨w12.heap.size + 1 + 1 + 1 + 1 + 1 + 1, 0, none⟩) 2 2] 46)).alloc (.cells #[.int .u32 3] 43)).alloc (.cells #[.int .u32 2] 43)).alloc (.cells #[.int .i64 1] 3)).alloc (.cells #[.int .u32 2] 43)).alloc (.cells #[.int .i64 2] 3)).alloc (.cells #[.slice (some ⟨w12.heap.size + 1 + 1 + 1 + 1 + 1 + 1 + 1 + 1, 0, none⟩) 1 1, .slice none 0 0, .slice (some ⟨w12.heap.size + 1 + 1 + 1 + 1 + 1 + 1 + 1 + 1 + 1, 0, none⟩) 1 1, .slice (some ⟨w12.heap.size + 1 + 1 + 1 + 1 + 1 + 1 + 1 + 1 + 1 + 1, 0, none⟩) 1 1, .slice (some ⟨w12.heap.size + 1 + 1 + 1 + 1 + 1 + 1 + 1 + 1 + 1 + 1 + 1, 0, none⟩) 1 1, .slice (some ⟨w12.heap.size + 1 + 1 + 1 + 1 + 1 + 1 + 1 + 1 + 1 + 1 + 1 + 1, 0, none⟩) 1 1] 46)) (.slice (some ⟨w12.heap.size + 1 + 1 + 1 + 1 + 1 + 1 + 1 + 1 + 1 + 1 + 1 + 1 + 1, 0, none⟩) 3 3) [([3], []), ([2], [1]), ([2], [2])] := by
    refine ms_lit (by simp; try omega) ⟨rfl, by decide⟩ ⟨⟨.slice (some ⟨w12.heap.size + 1 + 1 + 1 + 1 + 1 + 1 + 1 + 1, 0, none⟩) 1 1, .slice none 0 0, ?_, ?_, sl_oneN (by omega) ?_, Row.nil (by simp [maxLen])⟩, ⟨.slice (some ⟨w12.heap.size + 1 + 1 + 1 + 1 + 1 + 1 + 1 + 1 + 1, 0, none⟩) 1 1, .slice (some ⟨w12.heap.size + 1 + 1 + 1 + 1 + 1 + 1 + 1 + 1 + 1 + 1, 0, none⟩) 1 1, ?_, ?_, sl_oneN (by omega) ?_, is_oneI (by omega) ?_⟩, ⟨.slice (some ⟨w12.heap.size + 1 + 1 + 1 + 1 + 1 + 1 + 1 + 1 + 1 + 1 + 1, 0, none⟩) 1 1, .slice (some ⟨w12.heap.size + 1 + 1 + 1 + 1 + 1 + 1 + 1 + 1 + 1 + 1 + 1 + 1, 0, none⟩) 1 1, ?_, ?_, sl_oneN (by omega) ?_, is_oneI (by omega) ?_⟩, trivial⟩
    all_goals (repeat (first | (refine cell_new (hg := ?_) (hv := rfl); simp; done) | refine cell_old ?_))
  have K3 : Kp w12 ((((((((((((((w12.alloc (.cells #[.int .u32 1] 43)).alloc (.cells #[.int .u32 1] 43)).alloc (.cells #[.int .i64 0, .int .i64 1] 3)).alloc (.cells #[.int .u32 1] 43)).alloc (.cells #[.int .i64 1] 3)).alloc (.cells #[.int .u32 1] 43)).alloc (.cells #[.int .i64 1, .int .i64 1] 3)).alloc (.cells #[.slice (some ⟨w12.heap.size, 0, none⟩) 1 1, .slice none 0 0, .slice (some ⟨w12.heap.size + 1, 0, none⟩) 1 1, .slice (some ⟨w12.heap.size + 1 + 1, 0, none⟩) 2 2, .slice (some ⟨w12.heap.size + 1 + 1 + 1, 0, none⟩) 1 1, .slice (some ⟨w12.heap.size + 1 + 1 + 1 + 1, 0, none⟩) 1 1, .slice (some ⟨w12.heap.size + 1 + 1 + 1 + 1 + 1, 0, none⟩) 1 1, .slice (some ⟨w12.heap.size + 1 + 1 + 1 + 1 + 1 + 1, 0, none⟩) 2 2] 46)).alloc (.cells #[.int .u32 3] 43)).alloc (.cells #[.int .u32 2] 43)).alloc (.cells #[.int .i64 1] 3)).alloc (.cells #[.int .u32 2] 43)).alloc (.cells #[.int .i64 2] 3)).alloc (.cells #[.slice (some ⟨w12.heap.size + 1 + 1 + 1 + 1 + 1 + 1 + 1 + 1, 0, none⟩) 1 1, .slice none 0 0, .slice (some ⟨w12.heap.size + 1 + 1 + 1 + 1 + 1 + 1 + 1 + 1 + 1, 0, none⟩) 1 1, .slice (some ⟨w12.heap.size + 1 + 1 + 1 + 1 + 1 + 1 + 1 + 1 + 1 + 1, 0, none⟩) 1 1, .slice (some ⟨w12.heap.size + 1 + 1 + 1 + 1 + 1 + 1 + 1 + 1 + 1 + 1 + 1, 0, none⟩) 1 1, .slice (some ⟨w12.heap.size + 1 + 1 + 1 + 1 + 1 + 1 + 1 + 1 + 1 + 1 + 1 + 1, 0, none⟩) 1 1] 46)) := (((((((((((((kp_a).trans kp_a).trans kp_a).trans kp_a).trans kp_a).trans kp_a).trans kp_a).trans kp_a).trans kp_a).trans kp_a).trans kp_a).trans kp_a).trans kp_a).trans kp_a
  have HB3 : Hid (Below w.heap.size w ((((((((((((((w12.alloc (.cells #[.int .u32 1] 43)).alloc (.cells #[.int .u32 1] 43)).alloc (.cells #[.int .i64 0, .int .i64 1] 3)).alloc (.cells #[.int .u32 1] 43)).alloc (.cells #[.int .i64 1] 3)).alloc (.cells #[.int .u32 1] 43)).alloc (.cells #[.int .i64 1, .int .i64 1] 3)).alloc (.cells #[.slice (some ⟨w12.heap.size, 0, none⟩) 1 1, .slice none 0 0, .slice (some ⟨w12.heap.size + 1, 0, none⟩) 1 1, .slice (some ⟨w12.heap.size + 1 + 1, 0, none⟩) 2 2, .slice (some ⟨w12.heap.size + 1 + 1 + 1, 0, none⟩) 1 1, .slice (some ⟨w12.heap.size + 1 + 1 + 1 + 1, 0, none⟩) 1 1, .slice (some ⟨w12.heap.size + 1 + 1 + 1 + 1 + 1, 0, none⟩) 1 1, .slice (some ⟨w12.heap.size + 1 + 1 + 1 + 1 + 1 + 1, 0, none⟩) 2 2] 46)).alloc (.cells #[.int .u32 3] 43)).alloc (.cells #[.int .u32 2] 43)).alloc (.cells #[.int .i64 1] 3)).alloc (.cells #[.int .u32 2] 43)).alloc (.cells #[.int .i64 2] 3)).alloc (.cells #[.slice (some ⟨w12.heap.size + 1 + 1 + 1 + 1 + 1 + 1 + 1 + 1, 0, none⟩) 1 1, .slice none 0 0, .slice (some ⟨w12.heap.size + 1 + 1 + 1 + 1 + 1 + 1 + 1 + 1 + 1, 0, none⟩) 1 1, .slice (some ⟨w12.heap.size + 1 + 1 + 1 + 1 + 1 + 1 + 1 + 1 + 1 + 1, 0, none⟩) 1 1, .slice (some ⟨w12.heap.size + 1 + 1 + 1 + 1 + 1 + 1 + 1 + 1 + 1 + 1 + 1, 0, none⟩) 1 1, .slice (some ⟨w12.heap.size + 1 + 1 + 1 + 1 + 1 + 1 + 1 + 1 + 1 + 1 + 1 + 1, 0, none⟩) 1 1] 46))) := (below_step (below_step (below_step (below_step (below_step (below_step (below_step (below_step (below_step (below_step (below_step (below_step (below_step (below_step HB.out (below_alloc _)) (below_alloc _)) (below_alloc _)) (below_alloc _)) (below_alloc _)) (below_alloc _)) (below_alloc _)) (below_alloc _)) (below_alloc _)) (below_alloc _)) (below_alloc _)) (below_alloc _)) (below_alloc _)) (below_alloc _))
  rw [← hWL] at mwant mlaid K3 HB3
  clear HB
  have HB := HB3
  clear HB3
  have mc_ := mc.kp K3
  clear mc
  have mc := mc_
  clear mc_
  have mp_ := mp.kp K3
  clear mp
  have mp := mp_
  clear mp_
  have md_ := md.kp K3
  clear md
  have md := md_
  clear md_
  have sv_ := sv.kp K3
  clear sv
  have sv := sv_
  clear sv_
  clear K3
  go_wp2_with fail
  rw [← hWL]
  clear hWL
  refine (same_any _ _ pC pC _ mc mwant).mono ?_
  rintro e w13 ⟨rfl, n, hw⟩
  rw [show decide (pC = pC) = true by simp]
  have K := kp_drawn hw
  have B := below_drawn hw
  have K2 : Kp WL w13 := K
  have HB2 : Hid (Below w.heap.size w w13) := below_step HB.out B
  clear HB
  have HB := HB2
  clear HB2
  clear mc
  clear mwant
  have mp_ := mp.kp K2
  clear mp
  have mp := mp_
  clear mp_
  have md_ := md.kp K2
  clear md
  have md := md_
  clear md_
  have sv_ := sv.kp K2
  clear sv
  have sv := sv_
  clear sv_
  have mlaid_ := mlaid.kp K2
  clear mlaid
  have mlaid := mlaid_
  clear mlaid_
  clear K2 B hw
  go_wp2_with fail
  refine (same_any _ _ pD pD _ md mlaid).mono ?_
  rintro e w14 ⟨rfl, n, hw⟩
  rw [show decide (pD = pD) = true by simp]
  have K := kp_drawn hw
  have B := below_drawn hw
  have K2 : Kp w13 w14 := K
  have HB2 : Hid (Below w.heap.size w w14) := below_step HB.out B
  clear HB
  have HB := HB2
  clear HB2
  clear md
  clear mlaid
  have mp_ := mp.kp K2
  clear mp
  have mp := mp_
  clear mp_
  have sv_ := sv.kp K2
  clear sv
  have sv := sv_
  clear sv_
  clear K2 B hw
  go_wp2_with fail
  refine (sameNat_any _ _ [73] [73] _ (sv.kp kp_a) (sl_oneN (w := w14.alloc (.cells #[.int .u32 73] 43)) (g := w14.heap.size) (by omega) (cell_new rfl rfl))).mono ?_
  rintro e w15 ⟨rfl, n, hw⟩
  rw [show decide (([73] : List Nat) = [73]) = true by simp]
  have K := kp_drawn hw
  have B := below_drawn hw
  have K2 : Kp w14 w15 := (kp_a).trans K
  have HB2 : Hid (Below w.heap.size w w15) := below_step (below_step HB.out (below_alloc _)) B
  clear HB
  have HB := HB2
  clear HB2
  clear sv
  have mp_ := mp.kp K2
  clear mp
  have mp := mp_
  clear mp_
  clear K2 B hw
  go_wp2_with fail
  refine (check_any _ pP 2 _ mp (by omega) (by omega)).mono ?_
  rintro e w16 ⟨rfl, hb⟩
  rw [ex_ch.1]
  have K := Kp.of_below hb
  have B := hb
  have K2 : Kp w15 w16 := K
  have HB2 : Hid (Below w.heap.size w w16) := below_step HB.out B
  clear HB
  have HB := HB2
  clear HB2
  have mp_ := mp.kp K2
  clear mp
  have mp := mp_
  clear mp_
  clear K2 B hb
  go_wp2_with fail
  refine (check_any _ pP 1 _ mp (by omega) (by omega)).mono ?_
  rintro e w17 ⟨rfl, hb⟩
  rw [ex_ch.2.1]
  have K := Kp.of_below hb
  have B := hb
  have K2 : Kp w16 w17 := K
  have HB2 : Hid (Below w.heap.size w w17) := below_step HB.out B
  clear HB
  have HB := HB2
  clear HB2
  have mp_ := mp.kp K2
  clear mp
  have mp := mp_
  clear mp_
  clear K2 B hb
  go_wp2_with fail
  refine (check_any _ pP (-1) _ mp (by omega) (by omega)).mono ?_
  rintro e w18 ⟨rfl, hb⟩
  rw [ex_ch.2.2]
  have K := Kp.of_below hb
  have B := hb
  have K2 : Kp w17 w18 := K
  have HB2 : Hid (Below w.heap.size w w18) := below_step HB.out B
  clear HB
  have HB := HB2
  clear HB2
  have mp_ := mp.kp K2
  clear mp
  have mp := mp_
  clear mp_
  clear K2 B hb
  have mg : Ms (((w18.alloc (.cells #[.int .u32 1] 43)).alloc (.cells #[.int .i64 1, .int .i64 1] 3)).alloc (.cells #[.slice (some ⟨w18.heap.size, 0, none⟩) 1 1, .slice (some ⟨w18.heap.size + 1, 0, none⟩) 2 2] 46)) (.slice (some ⟨w18.heap.size + 1 + 1, 0, none⟩) 1 1) [([1], [1, 1])] := by
    refine ms_lit (by simp; try omega) ⟨rfl, by decide⟩ ⟨⟨.slice (some ⟨w18.heap.size, 0, none⟩) 1 1, .slice (some ⟨w18.heap.size + 1, 0, none⟩) 2 2, ?_, ?_, sl_oneN (by omega) ?_, is_two (by omega) (by omega) ?_ ?_⟩, trivial⟩
    all_goals (repeat (first | (refine cell_new (hg := ?_) (hv := rfl); simp; done) | refine cell_old ?_))
  go_wp2_with fail
  refine (greater_any _ _ pP pG _ (((mp.kp kp_a).kp kp_a).kp kp_a) mg).mono ?_
  rintro e w19 ⟨rfl, hb⟩
  rw [ex_gr.1]
  clear mg
  have K := Kp.of_below hb
  have B := hb
  have K2 : Kp w18 w19 := (((kp_a).trans kp_a).trans kp_a).trans K
  have HB2 : Hid (Below w.heap.size w w19) := below_step (below_step (below_step (below_step HB.out (below_alloc _)) (below_alloc _)) (below_alloc _)) B
  clear HB
  have HB := HB2
  clear HB2
  clear mp
  clear K2 B hb
  go_wp2_with fail
  refine (x_any _).mono ?_
  rintro e w20 ⟨vx5, rfl, mx, hb⟩
  have K := Kp.of_below hb
  have B := hb
  have K2 : Kp w19 w20 := K
  have HB2 : Hid (Below w.heap.size w w20) := below_step HB.out B
  clear HB
  have HB := HB2
  clear HB2
  clear K2 B hb
  go_wp2_with fail
  refine (y_any _).mono ?_
  rintro e w21 ⟨vy5, rfl, my, hb⟩
  have K := Kp.of_below hb
  have B := hb
  have K2 : Kp w20 w21 := K
  have HB2 : Hid (Below w.heap.size w w21) := below_step HB.out B
  clear HB
  have HB := HB2
  clear HB2
  have mx_ := mx.kp K2
  clear mx
  have mx := mx_
  clear mx_
  clear K2 B hb
  go_wp2_with fail
  refine (atLeast_any _ _ pX pY _ mx my).mono ?_
  rintro e w22 ⟨rfl, hb⟩
  rw [ex_gr.2]
  have K := Kp.of_below hb
  have B := hb
  have K2 : Kp w21 w22 := K
  have HB2 : Hid (Below w.heap.size w w22) := below_step HB.out B
  clear HB
  have HB := HB2
  clear HB2
  clear mx
  clear my
  clear K2 B hb
  go_wp2
  go_ret
  exact ⟨rfl, HB.out⟩

end Go.Proofs.Ytfifgmcjilkigaa
