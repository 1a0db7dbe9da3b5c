/- Texts of the proof, one behind the other. -/
import Derived.Test.YtgpbnbmjgcchfaaGreatDoorOwn6
import Derived.Deep.DeepAppendRoom
import Derived.Test.YtgpbnbmjgcchfaaGreatDoorOwn2
/- Lists of rows: of one's own, held against each other, joined. -/
namespace Go.Proofs.YtgpbnbmjgcchfaaGreatDoor
open Go.RowKit Go.Maps Go.BigFrame

theorem rs_of_own {w : World} {base b2 : Nat} {v : Value} {vs : List Value} {l : List (List Int)} (h : w.ownsRow base 26 1 v l.length vs) (hr : OwR w b2 vs l) (hl : ∀ t ∈ l, t.length * 8 ≤ 140737488351232) : Rs w v l := by
  have h2 := h
  rcases h2.2 with ⟨rfl, hn⟩ | ⟨g, cap, cur, rfl, hb, hg, hc, hm, hs, ht⟩
  · obtain rfl := List.eq_nil_of_length_eq_zero hn
    exact Row.nil (by simp [maxLen])
  · refine ⟨_, cap, rfl, hc, hm, fun _ => ⟨g, 0, rfl, (Array.getElem?_eq_some_iff.1 hg).1, fun k t hk => ?_⟩⟩
    have hlt : k < l.length := (List.getElem?_eq_some_iff.1 hk).1
    obtain ⟨u, hu⟩ : ∃ u, vs[k]? = some u := ⟨_, List.getElem?_eq_getElem (by rw [hr.1]; exact hlt)⟩
    refine ⟨hl t (List.mem_of_getElem? hk), u, ?_, (hr.2 k u t hu hk).is⟩
    rw [Nat.zero_add, Nat.mul_one, World.ownsRow.cellAt h k (by omega)]
    exact hu

theorem renG_length {σ : Type} (φ : σ → Int → Int × σ) : ∀ (t : List Int) (s : σ), (renG φ s t).1.length = t.length
  | [], s => rfl
  | c :: t, s => by
    unfold renG
    split
    · simp only [List.length_cons, renG_length φ t]
    · simp only [List.length_cons, renG_length φ t]

theorem canG_lens : ∀ (l : List (List Int)) (m : Met), (canG m l).map List.length = l.map List.length
  | [], _ => rfl
  | t :: l, m => by
    unfold canG
    rw [List.map_cons, List.map_cons, canG_lens l, renG_length]

theorem canL_length (l : List (List Int)) : (canL l).length = l.length := by
  have := congrArg List.length (canG_lens l [])
  simpa [canL] using this

/-- Rows of the same lengths are as small. -/
theorem lens_small {l k : List (List Int)} (h : k.map List.length = l.map List.length) (hl : ∀ t ∈ l, t.length * 8 ≤ 140737488351232) : ∀ t ∈ k, t.length * 8 ≤ 140737488351232 := by
  intro t ht
  have h1 : t.length ∈ k.map List.length := List.mem_map.2 ⟨t, ht, rfl⟩
  rw [h] at h1
  obtain ⟨u, hu, e⟩ := List.mem_map.1 h1
  rw [← e]
  exact hl u hu

theorem Rs.small {w : World} {v : Value} {l : List (List Int)} (h : Rs w v l) : ∀ t ∈ l, t.length * 8 ≤ 140737488351232 := fun t ht => by
  obtain ⟨ao, cap, rfl, _, _, hx⟩ := Row.flat h
  obtain ⟨k, hk, rfl⟩ := List.getElem_of_mem ht
  obtain ⟨g, off, x, _, hm, h3, _⟩ := hx k hk
  rw [List.getElem?_eq_getElem hk] at hm
  cases hm
  exact h3

theorem join_row (ty : TypeId) {w : World} {base n : Nat} {x u : Value} {vs : List Value} (ho : w.ownsRow base 26 1 x n vs) (hb : base ≤ w.heap.size) (hl : (n + 1) * 24 ≤ 140737488355328) (hu : u.oneCell' = true) :
    ∃ v' w', (Builtin.append_ #[118, 118] ty #[x, .slice (some ⟨w.heap.size, 0, none⟩) 1 1]).run Tryz.prog (w.alloc (.cells #[u] 26)) = .ok v' w' ∧ w'.ownsRow base 26 1 v' (n + 1) (vs ++ [u]) ∧ (w.alloc (.cells #[u] 26)).grownBy w' x.ownBlock := by
  obtain ⟨i1, hi1, hy0, hy1, hy2⟩ := info_parts info_ints
  obtain ⟨v', w', hr, h2, h3, _, _⟩ := run_append_own_at (P := Tryz.prog) (w.alloc (.cells #[u] 26)) base 118 ty 26 i1 _ 1 24 under_rows hi1 hy0 hy1 hy2 rfl (by decide) x n vs (ownsRow_later ho (below_alloc _)) ⟨w.heap.size, 0, none⟩ 1 1 [u] rfl
    (fun j y hj => by
      rw [Addr.add_lit, Nat.zero_add]
      cases j with
      | zero =>
        simp at hj
        subst hj
        exact cell_new rfl
      | succ j => simp at hj) (fun y hy => by simp at hy; subst hy; exact hu) (by unfold maxLen; omega) (by omega) (Nat.le_trans hb (below_alloc _).size)
  exact ⟨v', w', hr, h2, h3⟩

end Go.Proofs.YtgpbnbmjgcchfaaGreatDoor

/- Rows that are spoilt; rows of one's own that lie apart. -/
namespace Go.Proofs.YtgpbnbmjgcchfaaGreatDoor
open Go.RowKit Go.Maps Go.BigFrame

/-- One element more behind such a slice. -/
theorem append_spl (t ty e : TypeId) (i : TypeInfo) (z : Value) (bytes : Nat) (ht : Tryz.prog.underlying t = some (.slice e)) (hi : Tryz.prog.info? e = some i) (hz : i.zero = some z) (hsize : i.size = 1) (hby : i.bytes = bytes) (hzs : z.cells.size = 1)
    {w : World} {b T : Nat} {ao : Option Addr} {n cap : Nat} (h : RowS w b T e (.slice ao n cap) n) {ad : Addr} {c : Nat} {x : Value} (hx : w.cell? ad = some x) (h1 : x.oneCell' = true) (hbytes : (n + 1) * bytes ≤ 140737488355328) (hn : n + 1 ≤ maxLen) :
    ∃ g' cap' w', (Builtin.append_ #[t, t] ty #[.slice ao n cap, .slice (some ad) 1 c]).run Tryz.prog w = .ok (.slice (some ⟨g', 0, none⟩) (n + 1) cap') w' ∧ Shp w' g' e cap' ∧ n + 1 ≤ cap' ∧ cap' ≤ maxLen ∧
      ((b ≤ g' ∧ g' < T) ∨ w.heap.size ≤ g') ∧ Spl b T w w' ∧ ∀ (gp : Nat) (e' : TypeId) (m : Nat), Shp w gp e' m → e' ≠ e → w'.heap[gp]? = w.heap[gp]? := by
  have hnews : ∀ (j : Nat) (u : Value), [x][j]? = some u → w.cell? (ad.add j) = some u := fun j u hj => by
    cases j with
    | zero => simp at hj; subst hj; simpa [Addr.add] using hx
    | succ j => simp at hj
  have hone : ∀ u ∈ [x], u.oneCell' = true := fun u hu => by simp at hu; subst hu; exact h1
  have old : ∀ w', w.grownBy w' none → Spl b T w w' ∧ ∀ (gp : Nat) (e' : TypeId) (m : Nat), Shp w gp e' m → e' ≠ e → w'.heap[gp]? = w.heap[gp]? := fun w' hg => by
    have hbl : Below w.heap.size w w' := ⟨hg.os, hg.tape, hg.output, hg.size, fun k hk => hg.block k hk (by simp)⟩
    exact ⟨Spl.below hbl, fun gp e' m hs _ => hbl.block gp hs.lt⟩
  have new : ∀ (v' : Value) (w' : World) (xs : List Value), w'.ownsRow w.heap.size e 1 v' (n + 1) xs → ∃ g' cap', v' = .slice (some ⟨g', 0, none⟩) (n + 1) cap' ∧ Shp w' g' e cap' ∧ n + 1 ≤ cap' ∧ cap' ≤ maxLen ∧ w.heap.size ≤ g' := fun v' w' xs ho => by
    rcases ho.2 with ⟨_, h0⟩ | ⟨g, cap', cur, hv, hb, hg, hc, hm, hs, _⟩
    · omega
    · exact ⟨g, cap', hv, ⟨cur, hg, by omega⟩, hc, hm, hb⟩
  rcases h with ⟨hv, rfl⟩ | ⟨g, cap', hv, hb1, hb2, hsh, hc, hm⟩
  · rw [hv]
    obtain ⟨v', w', hr, ho, hg, _⟩ := run_append_own (P := Tryz.prog) w w.heap.size t ty e i z 1 bytes ht hi hz hsize hby hzs (by decide) (.slice none 0 0) 0 [] (World.ownsRow_nil w _ e 1) ad 1 c [x] rfl hnews hone (by unfold maxLen; omega) hbytes (Nat.le_refl _)
    obtain ⟨g', cap', rfl, hs', h2, h3, h4⟩ := new v' w' _ ho
    exact ⟨g', cap', w', hr, hs', h2, h3, .inr h4, (old w' hg).1, (old w' hg).2⟩
  · simp only [Value.slice.injEq, true_and] at hv
    obtain ⟨rfl, rfl⟩ := hv
    obtain ⟨cur, hg, hcs⟩ := hsh
    have hown : w.ownsRow b e 1 (.slice (some ⟨g, 0, none⟩) n cap) n (cur.toList.take n) := by
      refine ⟨by rw [List.length_take, Array.length_toList]; omega, .inr ⟨g, cap, cur, rfl, hb1, hg, hc, hm, by omega, by rw [Nat.mul_one]⟩⟩
    by_cases hroom : n + 1 ≤ cap
    · obtain ⟨w', hr, ho, hgr⟩ := run_append_own_spare (P := Tryz.prog) w b t ty e i 1 ht hi hsize g n cap _ hown ad 1 c [x] rfl hnews hone hroom
      have hs' : Shp w' g e cap := by
        rcases ho.2 with ⟨h0, _⟩ | ⟨g2, cap2, cur2, hv2, _, hg2, _, _, hs2, _⟩
        · cases h0
        · simp only [Value.slice.injEq, Option.some.injEq, Addr.mk.injEq, and_true, true_and] at hv2
          obtain ⟨rfl, rfl⟩ := hv2
          exact ⟨cur2, hg2, by omega⟩
      refine ⟨g, cap, w', hr, hs', hroom, hm, .inl ⟨hb1, hb2⟩, ⟨hgr.os, hgr.tape, hgr.output, hgr.size, fun k hk hbk => hgr.block k hk (by simp; omega), fun k e' m hk => ?_⟩, fun gp e' m hk hne => hgr.block gp hk.lt ?_⟩
      · by_cases hkg : k = g
        · subst hkg
          obtain ⟨cur3, hg3, hn3⟩ := hk
          rw [hg] at hg3
          simp only [Option.some.injEq, Obj.cells.injEq] at hg3
          obtain ⟨rfl, rfl, _⟩ := hg3
          rw [← hn3, hcs]
          exact hs'
        · have hlt := hk.lt
          obtain ⟨cur3, hg3, hn3⟩ := hk
          exact ⟨cur3, by rw [hgr.block k hlt (by simp; exact hkg)]; exact hg3, hn3⟩
      · have := hk.ne ⟨cur, hg, hcs⟩ hne
        simpa using this
    · obtain ⟨v', w', hr, ho, hgr⟩ := run_append_arg_grows (P := Tryz.prog) w t ty e i z 1 bytes ht hi hz hsize hby hzs (by decide) ⟨g, 0, none⟩ n cap (cur.toList.take n) (by rw [List.length_take, Array.length_toList]; omega) (fun j u hj => by
        have hj2 := (List.getElem?_eq_some_iff.1 hj).1
        rw [List.length_take, Array.length_toList] at hj2
        rw [Addr.add_lit, Nat.zero_add, cell_of_row _ _ _ _ _ _ hg]
        rw [List.getElem?_take_of_lt (by omega)] at hj
        simpa using hj) ad 1 c [x] rfl hnews (by omega) (by unfold maxLen at hn ⊢; omega) hbytes
      obtain ⟨g', cap', rfl, hs', h2, h3, h4⟩ := new v' w' _ ho
      exact ⟨g', cap', w', hr, hs', h2, h3, .inr h4, (old w' hgr).1, (old w' hgr).2⟩

theorem after_append {b t gp m : Nat} {e e' : TypeId} {w wn w4 wo : World} {o : Obj} (h : Spl b t w wn) (hg : wn.heap[gp]? = wo.heap[gp]?) (h4 : Spl b t (wn.alloc o) w4) (hk : ∀ (gp : Nat) (e' : TypeId) (m : Nat), Shp (wn.alloc o) gp e' m → e' ≠ e → w4.heap[gp]? = (wn.alloc o).heap[gp]?) (hs : Shp w gp e' m) (hne : e' ≠ e) :
    Spl b t w w4 ∧ w4.heap[gp]? = wo.heap[gp]? := by
  have h5 := h.trans (Spl.below (below_alloc o))
  refine ⟨h5.trans h4, ?_⟩
  rw [hk gp e' m (h5.shape _ _ _ hs) hne, (below_alloc o).block gp (h.shape _ _ _ hs).lt]
  exact hg

/-- Slices that lie in unlike blocks. -/
def Dis (v u : Value) : Prop := ∀ g, v.ownBlock = some g → u.ownBlock ≠ some g

theorem Dis.symm {v u : Value} (h : Dis v u) : Dis u v := fun g h1 h2 => h g h2 h1

theorem Dis.keep {v u : Value} (h : Dis v u) : v.ownBlock = none ∨ v.ownBlock ≠ u.ownBlock := by
  cases hv : v.ownBlock with
  | none => exact .inl rfl
  | some g => exact .inr fun e => h g hv e.symm

theorem own_blk_lt {w : World} {base : Nat} {e : TypeId} {s m j : Nat} {v : Value} {xs : List Value} (h : w.ownsRow base e s v m xs) (hj : v.ownBlock = some j) : j < w.heap.size := by
  rcases h.2 with ⟨rfl, _⟩ | ⟨g', cap, cur, rfl, hb, hg, _⟩
  · cases hj
  · cases hj
    exact (Array.getElem?_eq_some_iff.1 hg).1

theorem Dis.grow {w w2 : World} {base : Nat} {v u u' : Value} {xs : List Int} (h : Dis v u) (ho : OwI w base v xs) (hs : w.heap.size ≤ w2.heap.size) (hu : u'.ownBlock = u.ownBlock ∨ u'.ownBlock = some w2.heap.size) : Dis v u' := fun g h1 h2 => by
  rcases hu with hu | hu
  · rw [hu] at h2
    exact h g h1 h2
  · have := own_blk_lt ho.2 h1
    rw [hu] at h2
    cases h2
    omega

/-- A number joined to a row of one's own, with what becomes of its block. -/
theorem join_one (ty : TypeId) {w : World} {base : Nat} {x : Value} {xs : List Int} {c : Int} (ho : OwI w base x xs) (h1 : -9223372036854775808 ≤ c) (h2 : c ≤ 9223372036854775807) (hb : base ≤ w.heap.size) (hl : (xs.length + 1) * 8 ≤ 140737488355328) :
    ∃ v' w', (Builtin.append_ #[26, 26] ty #[x, .slice (some ⟨w.heap.size, 0, none⟩) 1 1]).run Tryz.prog (w.alloc (.cells #[.int .i64 c] 3)) = .ok v' w' ∧ OwI w' base v' (xs ++ [c]) ∧ (w.alloc (.cells #[.int .i64 c] 3)).grownBy w' x.ownBlock ∧ (v'.ownBlock = x.ownBlock ∨ v'.ownBlock = some (w.alloc (.cells #[.int .i64 c] 3)).heap.size) := by
  obtain ⟨i0, hi, hz0, hz1, hz2⟩ := info_parts info_int
  obtain ⟨v', w', hr, g2, g3, _, g5⟩ := run_append_own_at (P := Tryz.prog) (w.alloc (.cells #[.int .i64 c] 3)) base 26 ty 3 i0 _ 1 8 under_ints hi hz0 hz1 hz2 rfl (by decide) x xs.length (xs.map I64) (ownsRow_later ho.2 (below_alloc _)) ⟨w.heap.size, 0, none⟩ 1 1 [I64 c] rfl
    (fun j u hj => by
      rw [Addr.add_lit, Nat.zero_add]
      cases j with
      | zero => simp at hj; subst hj; exact cell_new rfl
      | succ j => simp at hj) (fun u hu => by simp at hu; subst hu; rfl) (by unfold maxLen; omega) (by omega) (Nat.le_trans hb (below_alloc _).size)
  refine ⟨v', w', hr, ⟨fun k y hk => ?_, ?_⟩, g3, g5⟩
  · by_cases hkl : k < xs.length
    · rw [List.getElem?_append_left hkl] at hk
      exact ho.1 k y hk
    · rw [List.getElem?_append_right (by omega)] at hk
      have hk0 : k - xs.length = 0 := by
        have := (List.getElem?_eq_some_iff.1 hk).1
        simp at this
        omega
      rw [hk0] at hk
      simp at hk
      subst hk
      exact ⟨h1, h2⟩
  · rw [List.length_append, List.map_append]
    exact g2

end Go.Proofs.YtgpbnbmjgcchfaaGreatDoor

/- kidsOf walked. -/
namespace Go.Proofs.YtgpbnbmjgcchfaaGreatDoor
open Go.RowKit Go.Maps

/-- The places of trees that stand one behind the other. -/
def kidsGo : Nat → List Tr → List Int
  | _, [] => []
  | p, t :: ts => (p : Int) :: kidsGo (p + t.size) ts

theorem kidsGo_app : ∀ (p : Nat) (a b : List Tr), kidsGo p (a ++ b) = kidsGo p a ++ kidsGo (p + sizes a) b
  | p, [], b => by simp [kidsGo, sizes]
  | p, t :: a, b => by simp only [List.cons_append, kidsGo, kidsGo_app (p + t.size) a b, sizes, Nat.add_assoc]

theorem kidsGo_len : ∀ (p : Nat) (a : List Tr), (kidsGo p a).length = a.length
  | _, [] => rfl
  | p, t :: a => by simp only [kidsGo, List.length_cons, kidsGo_len (p + t.size) a]

def kidsR (p : Nat) : Tr → List Int
  | .var => []
  | .app ts => kidsGo (p + 1) ts

theorem TVs.get {w : World} {A : Nat → Prop} {g : Nat} : ∀ {o : Nat} {ts : List Tr} {k : Nat} {t : Tr}, TVs w A g o ts → ts[k]? = some t → ∃ v, w.cell? ⟨g, o + k, none⟩ = some v ∧ TV w A v t
  | o, [], k, t, _, hk => by simp at hk
  | o, x :: ts, 0, t, h, hk => by
    unfold TVs at h
    simp only [List.getElem?_cons_zero, Option.some.injEq] at hk
    subst hk
    exact h.1
  | o, x :: ts, k + 1, t, h, hk => by
    unfold TVs at h
    rw [List.getElem?_cons_succ] at hk
    obtain ⟨v, h1, h2⟩ := TVs.get h.2 hk
    exact ⟨v, by rw [show o + (k + 1) = o + 1 + k by omega]; exact h1, h2⟩

theorem under_app : Tryz.prog.underlying 96 = some (.pointer 100) := by kernel_rfl

theorem zero_app : (Tryz.prog.info? 96).map (·.zero) = some (some (.pointer none)) := by kernel_rfl

theorem as_app (v : Value) (xT : TypeId) (ok : Bool) (w : World) : (Instr.typeAssert (.iface 96 v) xT 96 ok).run Tryz.prog w = .ok (if ok then .tuple #[v, .bool true] else v) w := by
  simp [Instr.typeAssert, run_underlying under_app, go_sem, Result.andThen]

theorem as_not (v : Value) (xT : TypeId) (w : World) : (Instr.typeAssert (.iface 106 v) xT 96 true).run Tryz.prog w = .ok (.tuple #[.pointer none, .bool false]) w := by
  obtain ⟨i, hi, hz⟩ : ∃ i, Tryz.prog.info? 96 = some i ∧ i.zero = some (.pointer none) := by
    have h := zero_app
    cases hi : Tryz.prog.info? 96 with
    | none => rw [hi] at h; cases h
    | some i => rw [hi] at h; exact ⟨i, rfl, by simpa using h⟩
  simp [Instr.typeAssert, run_underlying under_app, go_sem, Result.andThen, zeroValue, typeInfo, hi, hz]

set_option maxRecDepth 100000 in
set_option maxHeartbeats 1600000 in
theorem kidsOf_any (u : Value) (T : Tr) (A : Nat → Prop) (p : Nat) (w : World) (ht : TV w A u T) (hA : ∀ b, A b → b < w.heap.size) (hs : p + T.size ≤ 4611686018427387904) (hl : T.size * 8 ≤ 140737488355328) :
    Calls Tryz.prog 37 #[u, .int .i64 p] w fun e w' => ∃ v', e = .returned v' ∧ OwI w' w.heap.size v' (kidsR p T) ∧ Below w.heap.size w w' := by
  cases T with
  | var =>
    unfold TV at ht
    subst ht
    have has := as_not
    go_enter Tryz.func37, Tryz.ntmps37
    go_wp2
    go_ret
    exact ⟨_, rfl, ⟨fun k x hk => (by simp [kidsR] at hk), World.ownsRow_nil _ _ _ _⟩, Below.refl _ _⟩
  | app ts =>
    unfold TV at ht
    obtain ⟨b, a, cp, rfl, hb, h3, h4, h5, h6, h7⟩ := ht
    simp only [Tr.size] at hs hl
    unfold maxLen at h6
    have hbig := len_sizes ts
    have HA := hid hA
    have H7 := hid h7
    have hwp : IntKind.i64.wrap ((p : Int) + 1) = ((p + 1 + sizes (ts.take 0) : Nat) : Int) := by rw [IntWalk.i64_in _ ⟨by omega, by omega⟩]; simp [sizes]
    clear hA h7 h4
    have has := as_app (.pointer (some ⟨b, 0, none⟩)) 73 true
    simp only [if_true] at has
    go_enter Tryz.func37, Tryz.ntmps37
    go_wp2
    clear has hwp
    go_loopw [7, 8, 25] (fun x pv iv wr => ∃ k : Nat, k ≤ ts.length ∧ iv = .int .i64 k ∧ pv = .int .i64 ((p + 1 + sizes (ts.take k) : Nat) : Int) ∧ OwI wr w.heap.size x (kidsGo (p + 1) (ts.take k)) ∧ Below w.heap.size w wr) (fun _ _ iv _ => ts.length - (intOf iv).toNat)
    case atStart => exact ⟨0, Nat.zero_le _, rfl, rfl, ⟨fun k x hk => (by simp [kidsGo] at hk), World.ownsRow_nil _ _ _ _⟩, Below.refl _ _⟩
    case round =>
      obtain ⟨k, hk, rfl, rfl, how, hbl⟩ := hrel
      have HOw := hid how
      have HBl := hid hbl
      clear how hbl
      by_cases hlt : k < ts.length
      · obtain ⟨t, htk⟩ : ∃ t, ts[k]? = some t := ⟨_, List.getElem?_eq_getElem hlt⟩
        obtain ⟨g, off, rfl, hAg, htvs⟩ : ∃ g off, a = some ⟨g, off, none⟩ ∧ A g ∧ TVs w A g off ts := by
          rcases H7.out with h | h
          · rw [h] at hlt; simp at hlt
          · exact h
        obtain ⟨u, hcu, htv⟩ := htvs.get htk
        have hcur := (HBl.out.cell (p := ⟨g, off + k, none⟩) (HA.out g hAg)).trans hcu
        have hst := sizes_take ts (k + 1)
        have hsn : sizes (ts.take (k + 1)) = sizes (ts.take k) + t.size := by rw [take_get htk, sizes_app]; simp [sizes]
        have HSn := hid hsn
        have hkn : kidsGo (p + 1) (ts.take (k + 1)) = kidsGo (p + 1) (ts.take k) ++ [((p + 1 + sizes (ts.take k) : Nat) : Int)] := by rw [take_get htk, kidsGo_app]; simp [kidsGo]
        have HKn := hid hkn
        have hlenk : (kidsGo (p + 1) (ts.take k)).length = k := by rw [kidsGo_len, List.length_take]; omega
        have HSg := hid HBl.out.size
        obtain ⟨S, hS⟩ : ∃ S, S = sizes (ts.take k) := ⟨_, rfl⟩
        rw [← hS] at hsn HSn HKn ⊢
        obtain ⟨v6, w6, hr6, ho6, hg6, _⟩ := join_one 26 (c := ((p + 1 + S : Nat) : Int)) HOw.out (by omega) (by omega) HBl.out.size (by rw [hlenk]; omega)
        have hb6 := (below_step HBl.out (below_alloc _)).grown hg6 (Nat.le_trans HBl.out.size (below_alloc _).size) (fun j hj => own_blk HOw.out.2 hj)
        have HR6 := hid hr6
        have HO6 := hid (HKn.out ▸ ho6)
        have HB6 := hid hb6
        clear hS htk hkn hr6 ho6 hg6 hb6 hcu htvs hlenk
        cases t with
        | var =>
          unfold TV at htv
          subst htv
          simp only [Tr.size] at hsn HSn
          go_wp2_with (first
            | (at_builtin; refine wpList_append_run rfl _ _ _ rfl _ _ rfl rfl HR6.out ?_))
          refine (varNodes_any w6).mono ?_
          rintro e w2 ⟨rfl, hb2⟩
          have hwr : IntKind.i64.wrap ((p : Int) + 1 + S + 1) = ((p + 1 + (S + 1) : Nat) : Int) := by rw [IntWalk.i64_in _ ⟨by omega, by omega⟩]; omega
          have HO2 := hid (HO6.out.later hb2)
          have HB2 := hid (below_step HB6.out hb2)
          clear hb2
          go_wp2
          go_roundw
          case rel => exact ⟨k + 1, by omega, by go_num, by rw [HSn.out]; exact congrArg (Value.int .i64) (by omega), HO2.out, HB2.out⟩
          case measure => simp [intOf]; omega
        | app rs =>
          unfold TV at htv
          obtain ⟨b2, a2, cp2, rfl, hb2, _, h4, _, _, _⟩ := htv
          have h4r := (HB6.out.cell (p := ⟨b2, 1, none⟩) (HA.out b2 hb2)).trans h4
          simp only [Tr.size] at hsn HSn
          have hwr : IntKind.i64.wrap ((p : Int) + 1 + S + ((1 + sizes rs : Nat) : Int)) = ((p + 1 + (S + (1 + sizes rs)) : Nat) : Int) := by rw [IntWalk.i64_in _ ⟨by omega, by omega⟩]; omega
          go_wp2_with (first
            | (at_builtin; refine wpList_append_run rfl _ _ _ rfl _ _ rfl rfl HR6.out ?_))
          refine (appNodes_any b2 _ w6 h4r).mono ?_
          rintro e w2 ⟨rfl, hw2⟩
          have hw8 := hw2.symm
          subst hw8
          clear hw2
          go_wp2
          go_roundw
          case rel => exact ⟨k + 1, by omega, by go_num, by rw [HSn.out]; exact congrArg (Value.int .i64) (by omega), HO6.out, HB6.out⟩
          case measure => simp [intOf]; omega
      · have hke : k = ts.length := by omega
        subst hke
        rw [List.take_length] at HOw
        go_wp2
        go_ret
        exact ⟨_, rfl, HOw.out, HBl.out⟩

end Go.Proofs.YtgpbnbmjgcchfaaGreatDoor

/- Trees of package match in memory; apply. -/
namespace Go.Proofs.YtgpbnbmjgcchfaaGreatDoor
open Go.RowKit Go.Maps

mutual
/-- The value v is the tree that stands at a place, read through blocks of A alone; S: the codes from a place on. -/
def TP (w : World) (A : Nat → Prop) (S : Nat → Nat → Value) : Value → Tr → Nat → Prop
  | v, .var, p => v = .iface 134 (.agg #[S p 1])
  | v, .app ts, p => ∃ b a cap, v = .iface 140 (.pointer (some ⟨b, 0, none⟩)) ∧ A b ∧ w.cell? ⟨b, 0, none⟩ = some (S p (1 + sizes ts)) ∧ w.cell? ⟨b, 1, none⟩ = some (.slice a ts.length cap) ∧ ts.length ≤ cap ∧ cap ≤ maxLen ∧ (ts = [] ∨ ∃ g off, a = some ⟨g, off, none⟩ ∧ A g ∧ TPs w A S g off ts (p + 1))
def TPs (w : World) (A : Nat → Prop) (S : Nat → Nat → Value) (g : Nat) : Nat → List Tr → Nat → Prop
  | _, [], _ => True
  | o, t :: ts, p => (∃ v, w.cell? ⟨g, o, none⟩ = some v ∧ TP w A S v t p) ∧ TPs w A S g (o + 1) ts (p + t.size)
end

mutual
theorem TP.keep {w w' : World} {A A' : Nat → Prop} {S : Nat → Nat → Value} (hc : ∀ b o x, A b → w.cell? ⟨b, o, none⟩ = some x → w'.cell? ⟨b, o, none⟩ = some x) (hA : ∀ b, A b → A' b) : ∀ {v : Value} {t : Tr} {p : Nat}, TP w A S v t p → TP w' A' S v t p
  | v, .var, p, h => by unfold TP at h ⊢; exact h
  | v, .app ts, p, h => by
    unfold TP at h ⊢
    obtain ⟨b, a, cap, h1, h2, h3, h4, h5, h6, h7⟩ := h
    refine ⟨b, a, cap, h1, hA b h2, hc b 0 _ h2 h3, hc b 1 _ h2 h4, h5, h6, ?_⟩
    rcases h7 with h7 | ⟨g, off, k1, k2, k3⟩
    · exact .inl h7
    · exact .inr ⟨g, off, k1, hA g k2, TPs.keep hc hA k2 k3⟩
theorem TPs.keep {w w' : World} {A A' : Nat → Prop} {S : Nat → Nat → Value} (hc : ∀ b o x, A b → w.cell? ⟨b, o, none⟩ = some x → w'.cell? ⟨b, o, none⟩ = some x) (hA : ∀ b, A b → A' b) : ∀ {g o : Nat} {ts : List Tr} {p : Nat}, A g → TPs w A S g o ts p → TPs w' A' S g o ts p
  | g, o, [], p, _, _ => by unfold TPs; trivial
  | g, o, t :: ts, p, hg, h => by
    unfold TPs at h ⊢
    obtain ⟨⟨v, h1, h2⟩, h3⟩ := h
    exact ⟨⟨v, hc g o _ hg h1, TP.keep hc hA h2⟩, TPs.keep hc hA hg h3⟩
end

/-- Values that are trees one behind the other. -/
def TPl (w : World) (A : Nat → Prop) (S : Nat → Nat → Value) : List Value → List Tr → Nat → Prop
  | [], [], _ => True
  | v :: vs, t :: ts, p => TP w A S v t p ∧ TPl w A S vs ts (p + t.size)
  | _, _, _ => False

theorem TPl.keep {w w' : World} {A A' : Nat → Prop} {S : Nat → Nat → Value} (hc : ∀ b o x, A b → w.cell? ⟨b, o, none⟩ = some x → w'.cell? ⟨b, o, none⟩ = some x) (hA : ∀ b, A b → A' b) : ∀ {vs : List Value} {ts : List Tr} {p : Nat}, TPl w A S vs ts p → TPl w' A' S vs ts p
  | [], [], _, _ => trivial
  | _ :: _, _ :: _, _, ⟨h1, h2⟩ => ⟨h1.keep hc hA, TPl.keep hc hA h2⟩
  | [], _ :: _, _, h => h.elim
  | _ :: _, [], _, h => h.elim

theorem TPl.len {w : World} {A : Nat → Prop} {S : Nat → Nat → Value} : ∀ {vs : List Value} {ts : List Tr} {p : Nat}, TPl w A S vs ts p → vs.length = ts.length
  | [], [], _, _ => rfl
  | _ :: _, _ :: _, _, ⟨_, h2⟩ => congrArg (· + 1) (TPl.len h2)
  | [], _ :: _, _, h => h.elim
  | _ :: _, [], _, h => h.elim

theorem TPl.get {w : World} {A : Nat → Prop} {S : Nat → Nat → Value} : ∀ {vs : List Value} {ts : List Tr} {p k : Nat} {v : Value} {t : Tr}, TPl w A S vs ts p → vs[k]? = some v → ts[k]? = some t → TP w A S v t (p + sizes (ts.take k))
  | [], [], _, _, _, _, _, h, _ => by simp at h
  | v :: vs, t :: ts, p, 0, _, _, ⟨h1, _⟩, hv, ht => by simp at hv ht; subst hv; subst ht; simpa [sizes] using h1
  | v :: vs, t :: ts, p, k + 1, _, _, ⟨_, h2⟩, hv, ht => by
    have := TPl.get h2 (k := k) (by simpa using hv) (by simpa using ht)
    rw [List.take_succ_cons]
    simp only [sizes]
    rw [← Nat.add_assoc]
    exact this
  | [], _ :: _, _, _, _, _, h, _, _ => h.elim
  | _ :: _, [], _, _, _, _, h, _, _ => h.elim

theorem TPl.take {w : World} {A : Nat → Prop} {S : Nat → Nat → Value} : ∀ {vs : List Value} {ts : List Tr} {p : Nat} (k : Nat), TPl w A S vs ts p → TPl w A S (vs.take k) (ts.take k) p ∧ TPl w A S (vs.drop k) (ts.drop k) (p + sizes (ts.take k))
  | [], [], p, k, _ => by simp [TPl]
  | _ :: _, _ :: _, p, 0, h => ⟨trivial, by simpa [sizes] using h⟩
  | _ :: _, t :: ts, p, k + 1, ⟨h1, h2⟩ => by
    obtain ⟨h3, h4⟩ := TPl.take k h2
    refine ⟨⟨h1, h3⟩, ?_⟩
    rw [List.take_succ_cons, List.drop_succ_cons, List.drop_succ_cons]
    simp only [sizes]
    rw [← Nat.add_assoc]
    exact h4
  | [], _ :: _, _, _, h => h.elim
  | _ :: _, [], _, _, h => h.elim

theorem TP.ifv {w : World} {A : Nat → Prop} {S : Nat → Nat → Value} {v : Value} {t : Tr} {p : Nat} (h : TP w A S v t p) : IfV v := by
  cases t with
  | var => unfold TP at h; exact ⟨_, _, h⟩
  | app ts => unfold TP at h; obtain ⟨b, a, cap, h1, _⟩ := h; exact ⟨_, _, h1⟩

theorem TPl.ifv {w : World} {A : Nat → Prop} {S : Nat → Nat → Value} : ∀ {vs : List Value} {ts : List Tr} {p : Nat}, TPl w A S vs ts p → ∀ u ∈ vs, IfV u
  | [], [], _, _, u, hu => by cases hu
  | v :: vs, t :: ts, _, ⟨h1, h2⟩, u, hu => by
    cases hu with
    | head => exact h1.ifv
    | tail _ hu => exact TPl.ifv h2 u hu
  | [], _ :: _, _, h, _, _ => h.elim
  | _ :: _, [], _, h, _, _ => h.elim

theorem TPs_of_TPl {w : World} {A : Nat → Prop} {S : Nat → Nat → Value} {g : Nat} : ∀ {vs : List Value} {ts : List Tr} {o p : Nat}, TPl w A S vs ts p → (∀ (j : Nat) (u : Value), vs[j]? = some u → w.cell? ⟨g, o + j, none⟩ = some u) → TPs w A S g o ts p
  | [], [], o, p, _, _ => by unfold TPs; trivial
  | v :: vs, t :: ts, o, p, ⟨h1, h2⟩, hc => by
    unfold TPs
    refine ⟨⟨v, hc 0 v rfl, h1⟩, TPs_of_TPl h2 fun j u hj => ?_⟩
    have := hc (j + 1) u (by simpa using hj)
    rw [show o + 1 + j = o + (j + 1) by omega]
    exact this
  | [], _ :: _, _, _, h, _ => h.elim
  | _ :: _, [], _, _, h, _ => h.elim

theorem TPs.get {w : World} {A : Nat → Prop} {S : Nat → Nat → Value} {g : Nat} : ∀ {o : Nat} {ts : List Tr} {p k : Nat} {t : Tr}, TPs w A S g o ts p → ts[k]? = some t → ∃ v, w.cell? ⟨g, o + k, none⟩ = some v ∧ TP w A S v t (p + sizes (ts.take k))
  | o, [], p, k, t, _, hk => by simp at hk
  | o, x :: ts, p, 0, t, h, hk => by
    unfold TPs at h
    simp only [List.getElem?_cons_zero, Option.some.injEq] at hk
    subst hk
    simpa [sizes] using h.1
  | o, x :: ts, p, k + 1, t, h, hk => by
    unfold TPs at h
    rw [List.getElem?_cons_succ] at hk
    obtain ⟨v, h1, h2⟩ := TPs.get h.2 hk
    refine ⟨v, by rw [show o + (k + 1) = o + 1 + k by omega]; exact h1, ?_⟩
    rw [List.take_succ_cons]
    simp only [sizes]
    rw [← Nat.add_assoc]
    exact h2

/-- The codes from a place on. -/
def cdS (b o c : Nat) (p n : Nat) : Value := .slice (some ⟨b, o + p, none⟩) n (c - p)

theorem varRow_any (s : Value) (w : World) : Calls Tryz.prog 154 #[.agg #[s]] w fun e w' => e = .returned s ∧ Below w.heap.size w w' := by
  go_enter Tryz.func154, Tryz.ntmps154
  go_wp2
  go_ret
  exact ⟨rfl, below_alloc _⟩

theorem appRow_any (b : Nat) (s : Value) (w : World) (h : w.cell? ⟨b, 0, none⟩ = some s) : Calls Tryz.prog 155 #[.pointer (some ⟨b, 0, none⟩)] w fun e w' => e = .returned s ∧ w' = w := by
  go_enter Tryz.func155, Tryz.ntmps155
  go_wp2
  go_ret
  exact ⟨rfl, rfl⟩

set_option maxRecDepth 100000 in
set_option maxHeartbeats 1600000 in
theorem applyM_any (b0 o0 c0 p n : Nat) (v : Value) (vals : List Value) (ts : List Tr) (A : Nat → Prop) (q : Nat) (w : World) (hr : RdV w v vals) (ht : TPl w A (cdS b0 o0 c0) vals ts q) (hA : ∀ b, A b → b < w.heap.size) (hs : 1 + sizes ts ≤ n) (hn : n ≤ c0 - p) (hc : c0 ≤ 9223372036854775807) :
    Calls Tryz.prog 92 #[cdS b0 o0 c0 p n, v] w fun e w' => ∃ b, e = .returned (.iface 140 (.pointer (some ⟨b, 0, none⟩))) ∧ w.heap.size ≤ b ∧ w'.cell? ⟨b, 0, none⟩ = some (cdS b0 o0 c0 p (1 + sizes ts)) ∧ w'.cell? ⟨b, 1, none⟩ = some v ∧ Below w.heap.size w w' := by
  have hlen := ht.len
  have hsh : ∃ ao cap, v = .slice ao ts.length cap := by
    rcases hr with ⟨rfl, rfl⟩ | ⟨g, off, cap, rfl, _⟩
    · exact ⟨none, 0, by rw [← hlen]; rfl⟩
    · exact ⟨_, cap, by rw [hlen]⟩
  obtain ⟨ao, cap, rfl⟩ := hsh
  have HR := hid hr
  have HT := hid ht
  have HA := hid hA
  have hbig := len_sizes ts
  clear hr ht hA
  unfold cdS
  go_enter Tryz.func92, Tryz.ntmps92
  go_wp2
  go_loopw [5, 10] (fun sv iv wr => ∃ k : Nat, k ≤ ts.length ∧ iv = .int .i64 k ∧ sv = .int .i64 ((1 + sizes (ts.take k) : Nat) : Int) ∧ Below w.heap.size w wr) (fun _ iv _ => ts.length - (intOf iv).toNat)
  case atStart => exact ⟨0, Nat.zero_le _, rfl, by simp [sizes], Below.refl _ _⟩
  case round =>
    obtain ⟨k, hk, rfl, rfl, hbl⟩ := hrel
    have HBl := hid hbl
    by_cases hlt : k < ts.length
    · obtain ⟨u, hu⟩ : ∃ u, vals[k]? = some u := ⟨_, List.getElem?_eq_getElem (by omega)⟩
      obtain ⟨t, htk⟩ : ∃ t, ts[k]? = some t := ⟨_, List.getElem?_eq_getElem hlt⟩
      obtain ⟨g, off, rfl, hcl⟩ := (HR.out.kp (Kp.of_below hbl)).at hu
      have htv := HT.out.get hu htk
      have hst := sizes_take ts (k + 1)
      have hsn : sizes (ts.take (k + 1)) = sizes (ts.take k) + t.size := by rw [take_get htk, sizes_app]; simp [sizes]
      have HSn := hid hsn
      obtain ⟨S, hS⟩ : ∃ S, S = sizes (ts.take k) := ⟨_, rfl⟩
      rw [← hS] at hsn HSn htv ⊢
      clear hS hu htk hbl
      cases t with
      | var =>
        unfold TP cdS at htv
        subst htv
        simp only [Tr.size] at hsn HSn
        go_wp2_with fail
        refine (varRow_any _ wr).mono ?_
        rintro e w2 ⟨rfl, hb2⟩
        have HB2 := hid (below_step HBl.out hb2)
        have hwr : IntKind.i64.wrap (((1 + S : Nat) : Int) + 1) = ((1 + (S + 1) : Nat) : Int) := by rw [IntWalk.i64_in _ ⟨by omega, by omega⟩]; omega
        clear hb2
        go_wp2
        go_roundw
        case rel => exact ⟨k + 1, by omega, by go_num, by rw [HSn.out]; exact congrArg (Value.int .i64) (by omega), HB2.out⟩
        case measure => simp [intOf]; omega
      | app rs =>
        unfold TP cdS at htv
        obtain ⟨b, a, cp, rfl, hb, h3, h4, h5, h6, h7⟩ := htv
        have h3r := (HBl.out.cell (p := ⟨b, 0, none⟩) (HA.out b hb)).trans h3
        simp only [Tr.size] at hsn HSn
        obtain ⟨Z, hZ⟩ : ∃ Z, Z = 1 + sizes rs := ⟨_, rfl⟩
        rw [← hZ] at hsn HSn h3r
        have hwr : IntKind.i64.wrap (((1 + S : Nat) : Int) + (Z : Int)) = ((1 + (S + Z) : Nat) : Int) := by rw [IntWalk.i64_in _ ⟨by omega, by omega⟩]; omega
        clear h3 h7 hZ
        go_wp2_with fail
        refine (appRow_any b _ wr h3r).mono ?_
        rintro e w2 ⟨rfl, hw2⟩
        have hw8 := hw2.symm
        subst hw8
        clear hw2
        go_wp2
        go_roundw
        case rel => exact ⟨k + 1, by omega, by go_num, by rw [HSn.out]; exact congrArg (Value.int .i64) (by omega), HBl.out⟩
        case measure => simp [intOf]; omega
    · have hke : k = ts.length := by omega
      subst hke
      rw [List.take_length]
      obtain ⟨Z, hZ⟩ : ∃ Z, Z = sizes ts := ⟨_, rfl⟩
      rw [← hZ] at hs ⊢
      have HZ := hid hZ
      have hzc : 1 + Z ≤ c0 - p := by omega
      have hz0 : (0 : Int) ≤ 1 + (Z : Int) := by omega
      clear hZ hbig
      go_wp2
      go_ret
      exact ⟨_, rfl, hbl.size, by rw [← HZ.out]; simp, by simp, below_step hbl (below_alloc _)⟩

end Go.Proofs.YtgpbnbmjgcchfaaGreatDoor

/- The tree of a right term, of package match: where grow stands. -/
namespace Go.Proofs.YtgpbnbmjgcchfaaGreatDoor
open Go.RowKit Go.Maps Go.Shelf

attribute [local go_sem] Oper.semAt_some

/-- Where grow stands: what begins first in the row is the last one; it begins at p. -/
structure GM (w W : World) (S : Nat → Nat → Value) (sv v gv : Value) (vals : List Value) (st : List Tr) (p : Nat) : Prop where
  box : W.cell? ⟨w.heap.size + 2, 0, none⟩ = some gv
  frz : W.frozen? ⟨w.heap.size + 2, 0, none⟩ = false
  sigb : W.cell? ⟨w.heap.size, 0, none⟩ = some sv
  rowb : W.cell? ⟨w.heap.size + 1, 0, none⟩ = some v
  bck : W.cell? ⟨w.heap.size + 3, 0, none⟩ = some v
  own : W.ownsRow (w.heap.size + 4) 115 1 gv vals.length vals
  tv : TPl W (fun b => w.heap.size + 4 ≤ b ∧ b < W.heap.size ∧ gv.ownBlock ≠ some b) S vals.reverse st.reverse p
  bel : Below w.heap.size w W
  sz : w.heap.size + 4 ≤ W.heap.size

theorem GM.put {w W : World} {S : Nat → Nat → Value} {sv v gv : Value} {vals : List Value} {st : List Tr} {p : Nat} (h : GM w W S sv v gv vals st p) {l : Nat} {o o' : Obj} (hl : w.heap.size + 4 ≤ l) (ho : W.heap[l]? = some o) (hc : o.isCells = false) : GM w (W.putObj l o') S sv v gv vals st p := by
  have hsz : (W.putObj l o').heap.size = W.heap.size := by simp [World.putObj]
  refine ⟨cell_putObj ho hc h.box, ?_, cell_putObj ho hc h.sigb, cell_putObj ho hc h.rowb, cell_putObj ho hc h.bck, ownsRow_putObj h.own _ ho hc, h.tv.keep (fun b o x _ hx => cell_putObj ho hc hx) (fun b hb => ⟨hb.1, by rw [hsz]; exact hb.2.1, hb.2.2⟩), ?_, by rw [hsz]; exact h.sz⟩
  · rw [frozen_same (World.putObj_heap_other (by simp only; omega))]
    exact h.frz
  · exact ⟨h.bel.os, h.bel.tape, h.bel.output, by rw [hsz]; exact h.bel.size, fun k hk => (World.putObj_heap_other (by omega)).trans (h.bel.block k hk)⟩

/-- What changed nothing that lay changes nothing here. -/
theorem GM.later {w W W' : World} {S : Nat → Nat → Value} {sv v gv : Value} {vals : List Value} {st : List Tr} {p : Nat} (h : GM w W S sv v gv vals st p) (hb : Below W.heap.size W W') : GM w W' S sv v gv vals st p := by
  have hk := Kp.of_below hb
  exact ⟨hk.cell _ _ h.box, by rw [frozen_same (hb.block _ (by have := h.sz; simp only; omega))]; exact h.frz, hk.cell _ _ h.sigb, hk.cell _ _ h.rowb, hk.cell _ _ h.bck, ownsRow_later h.own hb,
    h.tv.keep (fun b o x _ hx => hk.cell _ _ hx) (fun b hb2 => ⟨hb2.1, Nat.lt_of_lt_of_le hb2.2.1 hb.size, hb2.2.2⟩), below_step h.bel hb, Nat.le_trans h.sz hb.size⟩

/-- A tree joined, and the box set. -/
theorem GM.push (ty : TypeId) {w W W1 : World} {S : Nat → Nat → Value} {sv v gv u : Value} {vals : List Value} {st : List Tr} {k p p' : Nat} {T : Tr} {ao : Option Addr} {cap : Nat} (h : GM w W S sv v gv vals st p) (hgv : gv = .slice ao vals.length cap) (hk : k ≤ vals.length) (hb : Below W.heap.size W W1)
    (hT : TP W1 (fun b => w.heap.size + 4 ≤ b ∧ b < W1.heap.size ∧ gv.ownBlock ≠ some b) S u T p') (hp : p' + T.size = p + sizes (st.drop k)) (hl : (k + 1) * 16 ≤ 140737488355328) :
    ∃ g cp W2, (Builtin.append_ #[141, 141] ty #[.slice ao k cap, .slice (some ⟨W1.heap.size, 0, none⟩) 1 1]).run Tryz.prog (W1.alloc (.cells #[u] 115)) = .ok (.slice (some ⟨g, 0, none⟩) (k + 1) cp) W2 ∧
      W2.cell? ⟨w.heap.size + 2, 0, none⟩ = some gv ∧ W2.frozen? ⟨w.heap.size + 2, 0, none⟩ = false ∧
      GM w (W2.setCell ⟨w.heap.size + 2, 0, none⟩ (.slice (some ⟨g, 0, none⟩) (k + 1) cp)) S sv v (.slice (some ⟨g, 0, none⟩) (k + 1) cp) (vals.take k ++ [u]) (st.take k ++ [T]) p' ∧ KeepsFrom (w.heap.size + 4) W (W2.setCell ⟨w.heap.size + 2, 0, none⟩ (.slice (some ⟨g, 0, none⟩) (k + 1) cp)) := by
  obtain ⟨i0, hi, hz0, hz1, hz2⟩ := info_parts info_treeM
  have ha := below_alloc (w := W1) (.cells #[u] 115)
  have hba := below_step hb ha
  have hown := h.own
  rw [hgv] at hown
  have hcut := own_cut (ownsRow_later hown hba) hk
  have hsz := h.sz
  obtain ⟨v', W2, hr, h2, h3, _, h5⟩ := run_append_own_at (P := Tryz.prog) (W1.alloc (.cells #[u] 115)) (w.heap.size + 4) 141 ty 115 i0 _ 1 16 under_treesM hi hz0 hz1 hz2 rfl (by decide) (.slice ao k cap) k (vals.take k) hcut ⟨W1.heap.size, 0, none⟩ 1 1 [u] rfl
    (fun j y hj => by
      rw [Addr.add_lit, Nat.zero_add]
      cases j with
      | zero =>
        simp at hj
        subst hj
        rw [cell_of_row _ _ _ _ _ _ (heap_alloc_new _ _)]
        rfl
      | succ j => simp at hj) (fun y hy => by simp at hy; subst hy; exact hT.ifv.one) (by unfold maxLen; omega) (by omega) (Nat.le_trans hsz hba.size)
  obtain ⟨g, cp, rfl⟩ := own_form h2 (by omega)
  have hge := own_ge h2
  -- the block of the slice, before
  have hob : (Value.slice ao k cap).ownBlock = gv.ownBlock := by rw [hgv]; cases ao <;> rfl
  rw [hob] at h3 h5
  have hgb : ∀ j, gv.ownBlock = some j → w.heap.size + 4 ≤ j := fun j hj => own_blk h.own hj
  have hold : ∀ b, b < w.heap.size + 4 → W2.heap[b]? = W.heap[b]? := fun b hb2 => by
    rw [h3.block b (Nat.lt_of_lt_of_le (Nat.lt_of_lt_of_le hb2 hsz) hba.size) (fun e => by have := hgb b e.symm; omega)]
    exact hba.block b (Nat.lt_of_lt_of_le hb2 hsz)
  have hbox : W2.cell? ⟨w.heap.size + 2, 0, none⟩ = some gv := by
    rw [World.cell?_of_block (hold _ (by simp only; omega))]
    exact h.box
  have hfrz : W2.frozen? ⟨w.heap.size + 2, 0, none⟩ = false := by
    rw [frozen_same (hold _ (by simp only; omega))]
    exact h.frz
  -- cells away from the slice's block stay
  have hfar : ∀ (b o : Nat) (x : Value), w.heap.size + 4 ≤ b → b < (W1.alloc (.cells #[u] 115)).heap.size → gv.ownBlock ≠ some b → (W1.alloc (.cells #[u] 115)).cell? ⟨b, o, none⟩ = some x → (W2.setCell ⟨w.heap.size + 2, 0, none⟩ (.slice (some ⟨g, 0, none⟩) (k + 1) cp)).cell? ⟨b, o, none⟩ = some x := fun b o x hb1 hb2 hb3 hx => by
    rw [World.cell?_setCell_far _ _ _ _ (by simp only; omega), World.cell?_of_block (h3.block b hb2 (fun e => hb3 e.symm))]
    exact hx
  have hne : ∀ b, b < (W1.alloc (.cells #[u] 115)).heap.size → gv.ownBlock ≠ some b → g ≠ b := fun b hb1 hb2 e => by
    subst e
    rcases h5 with h5 | h5
    · exact hb2 (by rw [← h5]; rfl)
    · simp only [Value.ownBlock, Option.some.injEq] at h5
      omega
  have hs2 : (W2.setCell ⟨w.heap.size + 2, 0, none⟩ (.slice (some ⟨g, 0, none⟩) (k + 1) cp)).heap.size = W2.heap.size := by simp [World.setCell]
  have hsw : W.heap.size ≤ (W1.alloc (.cells #[u] 115)).heap.size := hba.size
  have hvl : (vals.take k ++ [u]).length = k + 1 := by rw [List.length_append, List.length_take, Nat.min_eq_left hk]; rfl
  refine ⟨g, cp, W2, hr, hbox, hfrz, ⟨World.cell?_setCell_same' _ _ _ (by rw [hbox]; rfl), by rw [World.frozen?_setCell]; exact hfrz, ?_, ?_, ?_, ?_, ?_, ?_, ?_⟩, ?_⟩
  · rw [World.cell?_setCell_far _ _ _ _ (by simp only; omega), World.cell?_of_block (hold _ (by simp only; omega))]
    exact h.sigb
  · rw [World.cell?_setCell_far _ _ _ _ (by simp only; omega), World.cell?_of_block (hold _ (by simp only; omega))]
    exact h.rowb
  · rw [World.cell?_setCell_far _ _ _ _ (by simp only; omega), World.cell?_of_block (hold _ (by simp only; omega))]
    exact h.bck
  · rw [hvl]
    exact h2.kept (set_grownT W2 (w.heap.size + 2) 0 _) (.inr (by simp only [Value.ownBlock, ne_eq, Option.some.injEq]; omega))
  · rw [List.reverse_append, List.reverse_append, List.reverse_singleton, List.reverse_singleton]
    have hlk : vals.length = st.length := by have := h.tv.len; rw [List.length_reverse, List.length_reverse] at this; exact this
    have hd1 : (vals.take k).reverse = vals.reverse.drop (vals.length - k) := by
      have e1 : vals.reverse = (vals.drop k).reverse ++ (vals.take k).reverse := by rw [← List.reverse_append, List.take_append_drop]
      rw [e1, show vals.length - k = (vals.drop k).reverse.length by rw [List.length_reverse, List.length_drop], List.drop_left]
    have hd2 : (st.take k).reverse = st.reverse.drop (vals.length - k) := by
      have e1 : st.reverse = (st.drop k).reverse ++ (st.take k).reverse := by rw [← List.reverse_append, List.take_append_drop]
      rw [e1, hlk, show st.length - k = (st.drop k).reverse.length by rw [List.length_reverse, List.length_drop], List.drop_left]
    have hd3 : sizes (st.reverse.take (vals.length - k)) = sizes (st.drop k) := by
      have e1 : st.reverse = (st.drop k).reverse ++ (st.take k).reverse := by rw [← List.reverse_append, List.take_append_drop]
      rw [e1, hlk, show st.length - k = (st.drop k).reverse.length by rw [List.length_reverse, List.length_drop], List.take_left, sizes_rev]
    have htk := (h.tv.take (vals.length - k)).2
    rw [hd3, ← hp] at htk
    rw [← hd1, ← hd2] at htk
    refine ⟨?_, ?_⟩
    rotate_left
    · refine htk.keep (fun b o x hA hx => hfar b o x hA.1 (Nat.lt_of_lt_of_le hA.2.1 hsw) hA.2.2 ((Kp.of_below hba).cell _ _ hx)) (fun b hA => ⟨hA.1, ?_, ?_⟩)
      · rw [hs2]; exact Nat.lt_of_lt_of_le (Nat.lt_of_lt_of_le hA.2.1 hsw) h3.size
      · simp only [Value.ownBlock, ne_eq, Option.some.injEq]; exact hne b (Nat.lt_of_lt_of_le hA.2.1 hsw) hA.2.2
    · refine hT.keep (fun b o x hA hx => hfar b o x hA.1 (Nat.lt_of_lt_of_le hA.2.1 ha.size) hA.2.2 ((Kp.of_below ha).cell _ _ hx)) (fun b hA => ⟨hA.1, ?_, ?_⟩)
      · rw [hs2]; exact Nat.lt_of_lt_of_le (Nat.lt_of_lt_of_le hA.2.1 ha.size) h3.size
      · simp only [Value.ownBlock, ne_eq, Option.some.injEq]; exact hne b (Nat.lt_of_lt_of_le hA.2.1 ha.size) hA.2.2
  · exact ((below_step h.bel hba).grown h3 (below_step h.bel hba).size (fun j hj => by have := hgb j hj; omega)).setCell (p := ⟨w.heap.size + 2, 0, none⟩) (by simp only; omega) _
  · rw [hs2]
    exact Nat.le_trans hsz (Nat.le_trans hsw h3.size)
  · refine ⟨by rw [hs2]; exact Nat.le_trans hsw h3.size, fun j o hj ho hoc => ?_⟩
    have hjl := (Array.getElem?_eq_some_iff.1 ho).1
    rw [heap_setCell_other _ _ _ _ (show j ≠ w.heap.size + 2 by omega), h3.block j (Nat.lt_of_lt_of_le hjl hsw) (fun e => ?_), hba.block j hjl]
    · exact ho
    · rcases h.own.2 with ⟨h8, _⟩ | ⟨g8, c8, cur8, h8, _, hg8, _⟩
      · rw [h8] at e; cases e
      · rw [h8] at e
        simp only [Value.ownBlock, Option.some.injEq] at e
        subst e
        rw [hg8] at ho
        cases ho
        simp [Obj.isCells] at hoc

end Go.Proofs.YtgpbnbmjgcchfaaGreatDoor
