/- Texts of the proof, one behind the other. -/
import Derived.Test.YtjcgngfidnechabDoorOwn6
import Derived.Deep.DeepAppendRoom
import Derived.Test.YtjcgngfidnechabDoorOwn3
/- Lists of rows: of one's own, held against each other, joined. -/
namespace Go.Proofs.YtjcgngfidnechabDoor
open Go.RowKit Go.Maps Go.BigFrame

theorem rs_of_own {w : World} {base b2 : Nat} {v : Value} {vs : List Value} {l : List (List Int)} (h : w.ownsRow base 23 1 v l.length vs) (hr : OwR w b2 vs l) (hl : ∀ t ∈ l, t.length * 8 ≤ 140737488351232) : Rs w v l := by
  have h2 := h
  rcases h2.2 with ⟨rfl, hn⟩ | ⟨g, cap, cur, rfl, hb, hg, hc, hm, hs, ht⟩
  · obtain rfl := List.eq_nil_of_length_eq_zero hn
    exact Row.nil (by simp [maxLen])
  · refine ⟨_, cap, rfl, hc, hm, fun _ => ⟨g, 0, rfl, (Array.getElem?_eq_some_iff.1 hg).1, fun k t hk => ?_⟩⟩
    have hlt : k < l.length := (List.getElem?_eq_some_iff.1 hk).1
    obtain ⟨u, hu⟩ : ∃ u, vs[k]? = some u := ⟨_, List.getElem?_eq_getElem (by rw [hr.1]; exact hlt)⟩
    refine ⟨hl t (List.mem_of_getElem? hk), u, ?_, (hr.2 k u t hu hk).is⟩
    rw [Nat.zero_add, Nat.mul_one, World.ownsRow.cellAt h k (by omega)]
    exact hu

theorem renG_length {σ : Type} (φ : σ → Int → Int × σ) : ∀ (t : List Int) (s : σ), (renG φ s t).1.length = t.length
  | [], s => rfl
  | c :: t, s => by
    unfold renG
    split
    · simp only [List.length_cons, renG_length φ t]
    · simp only [List.length_cons, renG_length φ t]

theorem canG_lens : ∀ (l : List (List Int)) (m : Met), (canG m l).map List.length = l.map List.length
  | [], _ => rfl
  | t :: l, m => by
    unfold canG
    rw [List.map_cons, List.map_cons, canG_lens l, renG_length]

theorem canL_length (l : List (List Int)) : (canL l).length = l.length := by
  have := congrArg List.length (canG_lens l [])
  simpa [canL] using this

/-- Rows of the same lengths are as small. -/
theorem lens_small {l k : List (List Int)} (h : k.map List.length = l.map List.length) (hl : ∀ t ∈ l, t.length * 8 ≤ 140737488351232) : ∀ t ∈ k, t.length * 8 ≤ 140737488351232 := by
  intro t ht
  have h1 : t.length ∈ k.map List.length := List.mem_map.2 ⟨t, ht, rfl⟩
  rw [h] at h1
  obtain ⟨u, hu, e⟩ := List.mem_map.1 h1
  rw [← e]
  exact hl u hu

theorem Rs.small {w : World} {v : Value} {l : List (List Int)} (h : Rs w v l) : ∀ t ∈ l, t.length * 8 ≤ 140737488351232 := fun t ht => by
  obtain ⟨ao, cap, rfl, _, _, hx⟩ := Row.flat h
  obtain ⟨k, hk, rfl⟩ := List.getElem_of_mem ht
  obtain ⟨g, off, x, _, hm, h3, _⟩ := hx k hk
  rw [List.getElem?_eq_getElem hk] at hm
  cases hm
  exact h3

theorem join_row (ty : TypeId) {w : World} {base n : Nat} {x u : Value} {vs : List Value} (ho : w.ownsRow base 23 1 x n vs) (hb : base ≤ w.heap.size) (hl : (n + 1) * 24 ≤ 140737488355328) (hu : u.oneCell' = true) :
    ∃ v' w', (Builtin.append_ #[71, 71] ty #[x, .slice (some ⟨w.heap.size, 0, none⟩) 1 1]).run Tryd.prog (w.alloc (.cells #[u] 23)) = .ok v' w' ∧ w'.ownsRow base 23 1 v' (n + 1) (vs ++ [u]) ∧ (w.alloc (.cells #[u] 23)).grownBy w' x.ownBlock := by
  obtain ⟨i1, hi1, hy0, hy1, hy2⟩ := info_parts info_ints
  obtain ⟨v', w', hr, h2, h3, _, _⟩ := run_append_own_at (P := Tryd.prog) (w.alloc (.cells #[u] 23)) base 71 ty 23 i1 _ 1 24 under_rows hi1 hy0 hy1 hy2 rfl (by decide) x n vs (ownsRow_later ho (below_alloc _)) ⟨w.heap.size, 0, none⟩ 1 1 [u] rfl
    (fun j y hj => by
      rw [Addr.add_lit, Nat.zero_add]
      cases j with
      | zero =>
        simp at hj
        subst hj
        exact cell_new rfl
      | succ j => simp at hj) (fun y hy => by simp at hy; subst hy; exact hu) (by unfold maxLen; omega) (by omega) (Nat.le_trans hb (below_alloc _).size)
  exact ⟨v', w', hr, h2, h3⟩

end Go.Proofs.YtjcgngfidnechabDoor

/- Rows that are spoilt; rows of one's own that lie apart. -/
namespace Go.Proofs.YtjcgngfidnechabDoor
open Go.RowKit Go.Maps Go.BigFrame

/-- One element more behind such a slice. -/
theorem append_spl (t ty e : TypeId) (i : TypeInfo) (z : Value) (bytes : Nat) (ht : Tryd.prog.underlying t = some (.slice e)) (hi : Tryd.prog.info? e = some i) (hz : i.zero = some z) (hsize : i.size = 1) (hby : i.bytes = bytes) (hzs : z.cells.size = 1)
    {w : World} {b T : Nat} {ao : Option Addr} {n cap : Nat} (h : RowS w b T e (.slice ao n cap) n) {ad : Addr} {c : Nat} {x : Value} (hx : w.cell? ad = some x) (h1 : x.oneCell' = true) (hbytes : (n + 1) * bytes ≤ 140737488355328) (hn : n + 1 ≤ maxLen) :
    ∃ g' cap' w', (Builtin.append_ #[t, t] ty #[.slice ao n cap, .slice (some ad) 1 c]).run Tryd.prog w = .ok (.slice (some ⟨g', 0, none⟩) (n + 1) cap') w' ∧ Shp w' g' e cap' ∧ n + 1 ≤ cap' ∧ cap' ≤ maxLen ∧
      ((b ≤ g' ∧ g' < T) ∨ w.heap.size ≤ g') ∧ Spl b T w w' ∧ ∀ (gp : Nat) (e' : TypeId) (m : Nat), Shp w gp e' m → e' ≠ e → w'.heap[gp]? = w.heap[gp]? := by
  have hnews : ∀ (j : Nat) (u : Value), [x][j]? = some u → w.cell? (ad.add j) = some u := fun j u hj => by
    cases j with
    | zero => simp at hj; subst hj; simpa [Addr.add] using hx
    | succ j => simp at hj
  have hone : ∀ u ∈ [x], u.oneCell' = true := fun u hu => by simp at hu; subst hu; exact h1
  have old : ∀ w', w.grownBy w' none → Spl b T w w' ∧ ∀ (gp : Nat) (e' : TypeId) (m : Nat), Shp w gp e' m → e' ≠ e → w'.heap[gp]? = w.heap[gp]? := fun w' hg => by
    have hbl : Below w.heap.size w w' := ⟨hg.os, hg.tape, hg.output, hg.size, fun k hk => hg.block k hk (by simp)⟩
    exact ⟨Spl.below hbl, fun gp e' m hs _ => hbl.block gp hs.lt⟩
  have new : ∀ (v' : Value) (w' : World) (xs : List Value), w'.ownsRow w.heap.size e 1 v' (n + 1) xs → ∃ g' cap', v' = .slice (some ⟨g', 0, none⟩) (n + 1) cap' ∧ Shp w' g' e cap' ∧ n + 1 ≤ cap' ∧ cap' ≤ maxLen ∧ w.heap.size ≤ g' := fun v' w' xs ho => by
    rcases ho.2 with ⟨_, h0⟩ | ⟨g, cap', cur, hv, hb, hg, hc, hm, hs, _⟩
    · omega
    · exact ⟨g, cap', hv, ⟨cur, hg, by omega⟩, hc, hm, hb⟩
  rcases h with ⟨hv, rfl⟩ | ⟨g, cap', hv, hb1, hb2, hsh, hc, hm⟩
  · rw [hv]
    obtain ⟨v', w', hr, ho, hg, _⟩ := run_append_own (P := Tryd.prog) w w.heap.size t ty e i z 1 bytes ht hi hz hsize hby hzs (by decide) (.slice none 0 0) 0 [] (World.ownsRow_nil w _ e 1) ad 1 c [x] rfl hnews hone (by unfold maxLen; omega) hbytes (Nat.le_refl _)
    obtain ⟨g', cap', rfl, hs', h2, h3, h4⟩ := new v' w' _ ho
    exact ⟨g', cap', w', hr, hs', h2, h3, .inr h4, (old w' hg).1, (old w' hg).2⟩
  · simp only [Value.slice.injEq, true_and] at hv
    obtain ⟨rfl, rfl⟩ := hv
    obtain ⟨cur, hg, hcs⟩ := hsh
    have hown : w.ownsRow b e 1 (.slice (some ⟨g, 0, none⟩) n cap) n (cur.toList.take n) := by
      refine ⟨by rw [List.length_take, Array.length_toList]; omega, .inr ⟨g, cap, cur, rfl, hb1, hg, hc, hm, by omega, by rw [Nat.mul_one]⟩⟩
    by_cases hroom : n + 1 ≤ cap
    · obtain ⟨w', hr, ho, hgr⟩ := run_append_own_spare (P := Tryd.prog) w b t ty e i 1 ht hi hsize g n cap _ hown ad 1 c [x] rfl hnews hone hroom
      have hs' : Shp w' g e cap := by
        rcases ho.2 with ⟨h0, _⟩ | ⟨g2, cap2, cur2, hv2, _, hg2, _, _, hs2, _⟩
        · cases h0
        · simp only [Value.slice.injEq, Option.some.injEq, Addr.mk.injEq, and_true, true_and] at hv2
          obtain ⟨rfl, rfl⟩ := hv2
          exact ⟨cur2, hg2, by omega⟩
      refine ⟨g, cap, w', hr, hs', hroom, hm, .inl ⟨hb1, hb2⟩, ⟨hgr.os, hgr.tape, hgr.output, hgr.size, fun k hk hbk => hgr.block k hk (by simp; omega), fun k e' m hk => ?_⟩, fun gp e' m hk hne => hgr.block gp hk.lt ?_⟩
      · by_cases hkg : k = g
        · subst hkg
          obtain ⟨cur3, hg3, hn3⟩ := hk
          rw [hg] at hg3
          simp only [Option.some.injEq, Obj.cells.injEq] at hg3
          obtain ⟨rfl, rfl, _⟩ := hg3
          rw [← hn3, hcs]
          exact hs'
        · have hlt := hk.lt
          obtain ⟨cur3, hg3, hn3⟩ := hk
          exact ⟨cur3, by rw [hgr.block k hlt (by simp; exact hkg)]; exact hg3, hn3⟩
      · have := hk.ne ⟨cur, hg, hcs⟩ hne
        simpa using this
    · obtain ⟨v', w', hr, ho, hgr⟩ := run_append_arg_grows (P := Tryd.prog) w t ty e i z 1 bytes ht hi hz hsize hby hzs (by decide) ⟨g, 0, none⟩ n cap (cur.toList.take n) (by rw [List.length_take, Array.length_toList]; omega) (fun j u hj => by
        have hj2 := (List.getElem?_eq_some_iff.1 hj).1
        rw [List.length_take, Array.length_toList] at hj2
        rw [Addr.add_lit, Nat.zero_add, cell_of_row _ _ _ _ _ _ hg]
        rw [List.getElem?_take_of_lt (by omega)] at hj
        simpa using hj) ad 1 c [x] rfl hnews (by omega) (by unfold maxLen at hn ⊢; omega) hbytes
      obtain ⟨g', cap', rfl, hs', h2, h3, h4⟩ := new v' w' _ ho
      exact ⟨g', cap', w', hr, hs', h2, h3, .inr h4, (old w' hgr).1, (old w' hgr).2⟩

theorem after_append {b t gp m : Nat} {e e' : TypeId} {w wn w4 wo : World} {o : Obj} (h : Spl b t w wn) (hg : wn.heap[gp]? = wo.heap[gp]?) (h4 : Spl b t (wn.alloc o) w4) (hk : ∀ (gp : Nat) (e' : TypeId) (m : Nat), Shp (wn.alloc o) gp e' m → e' ≠ e → w4.heap[gp]? = (wn.alloc o).heap[gp]?) (hs : Shp w gp e' m) (hne : e' ≠ e) :
    Spl b t w w4 ∧ w4.heap[gp]? = wo.heap[gp]? := by
  have h5 := h.trans (Spl.below (below_alloc o))
  refine ⟨h5.trans h4, ?_⟩
  rw [hk gp e' m (h5.shape _ _ _ hs) hne, (below_alloc o).block gp (h.shape _ _ _ hs).lt]
  exact hg

/-- Slices that lie in unlike blocks. -/
def Dis (v u : Value) : Prop := ∀ g, v.ownBlock = some g → u.ownBlock ≠ some g

theorem Dis.symm {v u : Value} (h : Dis v u) : Dis u v := fun g h1 h2 => h g h2 h1

theorem Dis.keep {v u : Value} (h : Dis v u) : v.ownBlock = none ∨ v.ownBlock ≠ u.ownBlock := by
  cases hv : v.ownBlock with
  | none => exact .inl rfl
  | some g => exact .inr fun e => h g hv e.symm

theorem own_blk_lt {w : World} {base : Nat} {e : TypeId} {s m j : Nat} {v : Value} {xs : List Value} (h : w.ownsRow base e s v m xs) (hj : v.ownBlock = some j) : j < w.heap.size := by
  rcases h.2 with ⟨rfl, _⟩ | ⟨g', cap, cur, rfl, hb, hg, _⟩
  · cases hj
  · cases hj
    exact (Array.getElem?_eq_some_iff.1 hg).1

theorem Dis.grow {w w2 : World} {base : Nat} {v u u' : Value} {xs : List Int} (h : Dis v u) (ho : OwI w base v xs) (hs : w.heap.size ≤ w2.heap.size) (hu : u'.ownBlock = u.ownBlock ∨ u'.ownBlock = some w2.heap.size) : Dis v u' := fun g h1 h2 => by
  rcases hu with hu | hu
  · rw [hu] at h2
    exact h g h1 h2
  · have := own_blk_lt ho.2 h1
    rw [hu] at h2
    cases h2
    omega

/-- A number joined to a row of one's own, with what becomes of its block. -/
theorem join_one (ty : TypeId) {w : World} {base : Nat} {x : Value} {xs : List Int} {c : Int} (ho : OwI w base x xs) (h1 : -9223372036854775808 ≤ c) (h2 : c ≤ 9223372036854775807) (hb : base ≤ w.heap.size) (hl : (xs.length + 1) * 8 ≤ 140737488355328) :
    ∃ v' w', (Builtin.append_ #[23, 23] ty #[x, .slice (some ⟨w.heap.size, 0, none⟩) 1 1]).run Tryd.prog (w.alloc (.cells #[.int .i64 c] 3)) = .ok v' w' ∧ OwI w' base v' (xs ++ [c]) ∧ (w.alloc (.cells #[.int .i64 c] 3)).grownBy w' x.ownBlock ∧ (v'.ownBlock = x.ownBlock ∨ v'.ownBlock = some (w.alloc (.cells #[.int .i64 c] 3)).heap.size) := by
  obtain ⟨i0, hi, hz0, hz1, hz2⟩ := info_parts info_int
  obtain ⟨v', w', hr, g2, g3, _, g5⟩ := run_append_own_at (P := Tryd.prog) (w.alloc (.cells #[.int .i64 c] 3)) base 23 ty 3 i0 _ 1 8 under_ints hi hz0 hz1 hz2 rfl (by decide) x xs.length (xs.map I64) (ownsRow_later ho.2 (below_alloc _)) ⟨w.heap.size, 0, none⟩ 1 1 [I64 c] rfl
    (fun j u hj => by
      rw [Addr.add_lit, Nat.zero_add]
      cases j with
      | zero => simp at hj; subst hj; exact cell_new rfl
      | succ j => simp at hj) (fun u hu => by simp at hu; subst hu; rfl) (by unfold maxLen; omega) (by omega) (Nat.le_trans hb (below_alloc _).size)
  refine ⟨v', w', hr, ⟨fun k y hk => ?_, ?_⟩, g3, g5⟩
  · by_cases hkl : k < xs.length
    · rw [List.getElem?_append_left hkl] at hk
      exact ho.1 k y hk
    · rw [List.getElem?_append_right (by omega)] at hk
      have hk0 : k - xs.length = 0 := by
        have := (List.getElem?_eq_some_iff.1 hk).1
        simp at this
        omega
      rw [hk0] at hk
      simp at hk
      subst hk
      exact ⟨h1, h2⟩
  · rw [List.length_append, List.map_append]
    exact g2

end Go.Proofs.YtjcgngfidnechabDoor

/- kidsOf walked. -/
namespace Go.Proofs.YtjcgngfidnechabDoor
open Go.RowKit Go.Maps

/-- The places of trees that stand one behind the other. -/
def kidsGo : Nat → List Tr → List Int
  | _, [] => []
  | p, t :: ts => (p : Int) :: kidsGo (p + t.size) ts

theorem kidsGo_app : ∀ (p : Nat) (a b : List Tr), kidsGo p (a ++ b) = kidsGo p a ++ kidsGo (p + sizes a) b
  | p, [], b => by simp [kidsGo, sizes]
  | p, t :: a, b => by simp only [List.cons_append, kidsGo, kidsGo_app (p + t.size) a b, sizes, Nat.add_assoc]

theorem kidsGo_len : ∀ (p : Nat) (a : List Tr), (kidsGo p a).length = a.length
  | _, [] => rfl
  | p, t :: a => by simp only [kidsGo, List.length_cons, kidsGo_len (p + t.size) a]

def kidsR (p : Nat) : Tr → List Int
  | .var => []
  | .app ts => kidsGo (p + 1) ts

theorem TVs.get {w : World} {A : Nat → Prop} {g : Nat} : ∀ {o : Nat} {ts : List Tr} {k : Nat} {t : Tr}, TVs w A g o ts → ts[k]? = some t → ∃ v, w.cell? ⟨g, o + k, none⟩ = some v ∧ TV w A v t
  | o, [], k, t, _, hk => by simp at hk
  | o, x :: ts, 0, t, h, hk => by
    unfold TVs at h
    simp only [List.getElem?_cons_zero, Option.some.injEq] at hk
    subst hk
    exact h.1
  | o, x :: ts, k + 1, t, h, hk => by
    unfold TVs at h
    rw [List.getElem?_cons_succ] at hk
    obtain ⟨v, h1, h2⟩ := TVs.get h.2 hk
    exact ⟨v, by rw [show o + (k + 1) = o + 1 + k by omega]; exact h1, h2⟩

theorem under_app : Tryd.prog.underlying 113 = some (.pointer 117) := by kernel_rfl

theorem zero_app : (Tryd.prog.info? 113).map (·.zero) = some (some (.pointer none)) := by kernel_rfl

theorem as_app (v : Value) (xT : TypeId) (ok : Bool) (w : World) : (Instr.typeAssert (.iface 113 v) xT 113 ok).run Tryd.prog w = .ok (if ok then .tuple #[v, .bool true] else v) w := by
  simp [Instr.typeAssert, run_underlying under_app, go_sem, Result.andThen]

theorem as_not (v : Value) (xT : TypeId) (w : World) : (Instr.typeAssert (.iface 118 v) xT 113 true).run Tryd.prog w = .ok (.tuple #[.pointer none, .bool false]) w := by
  obtain ⟨i, hi, hz⟩ : ∃ i, Tryd.prog.info? 113 = some i ∧ i.zero = some (.pointer none) := by
    have h := zero_app
    cases hi : Tryd.prog.info? 113 with
    | none => rw [hi] at h; cases h
    | some i => rw [hi] at h; exact ⟨i, rfl, by simpa using h⟩
  simp [Instr.typeAssert, run_underlying under_app, go_sem, Result.andThen, zeroValue, typeInfo, hi, hz]

set_option maxRecDepth 100000 in
set_option maxHeartbeats 1600000 in
theorem kidsOf_any (u : Value) (T : Tr) (A : Nat → Prop) (p : Nat) (w : World) (ht : TV w A u T) (hA : ∀ b, A b → b < w.heap.size) (hs : p + T.size ≤ 4611686018427387904) (hl : T.size * 8 ≤ 140737488355328) :
    Calls Tryd.prog 53 #[u, .int .i64 p] w fun e w' => ∃ v', e = .returned v' ∧ OwI w' w.heap.size v' (kidsR p T) ∧ Below w.heap.size w w' := by
  cases T with
  | var =>
    unfold TV at ht
    subst ht
    have has := as_not
    go_enter Tryd.func53, Tryd.ntmps53
    go_wp2
    go_ret
    exact ⟨_, rfl, ⟨fun k x hk => (by simp [kidsR] at hk), World.ownsRow_nil _ _ _ _⟩, Below.refl _ _⟩
  | app ts =>
    unfold TV at ht
    obtain ⟨b, a, cp, rfl, hb, h3, h4, h5, h6, h7⟩ := ht
    simp only [Tr.size] at hs hl
    unfold maxLen at h6
    have hbig := len_sizes ts
    have HA := hid hA
    have H7 := hid h7
    have hwp : IntKind.i64.wrap ((p : Int) + 1) = ((p + 1 + sizes (ts.take 0) : Nat) : Int) := by rw [IntWalk.i64_in _ ⟨by omega, by omega⟩]; simp [sizes]
    clear hA h7 h4
    have has := as_app (.pointer (some ⟨b, 0, none⟩)) 80 true
    simp only [if_true] at has
    go_enter Tryd.func53, Tryd.ntmps53
    go_wp2
    clear has hwp
    go_loopw [7, 8, 25] (fun x pv iv wr => ∃ k : Nat, k ≤ ts.length ∧ iv = .int .i64 k ∧ pv = .int .i64 ((p + 1 + sizes (ts.take k) : Nat) : Int) ∧ OwI wr w.heap.size x (kidsGo (p + 1) (ts.take k)) ∧ Below w.heap.size w wr) (fun _ _ iv _ => ts.length - (intOf iv).toNat)
    case atStart => exact ⟨0, Nat.zero_le _, rfl, rfl, ⟨fun k x hk => (by simp [kidsGo] at hk), World.ownsRow_nil _ _ _ _⟩, Below.refl _ _⟩
    case round =>
      obtain ⟨k, hk, rfl, rfl, how, hbl⟩ := hrel
      have HOw := hid how
      have HBl := hid hbl
      clear how hbl
      by_cases hlt : k < ts.length
      · obtain ⟨t, htk⟩ : ∃ t, ts[k]? = some t := ⟨_, List.getElem?_eq_getElem hlt⟩
        obtain ⟨g, off, rfl, hAg, htvs⟩ : ∃ g off, a = some ⟨g, off, none⟩ ∧ A g ∧ TVs w A g off ts := by
          rcases H7.out with h | h
          · rw [h] at hlt; simp at hlt
          · exact h
        obtain ⟨u, hcu, htv⟩ := htvs.get htk
        have hcur := (HBl.out.cell (p := ⟨g, off + k, none⟩) (HA.out g hAg)).trans hcu
        have hst := sizes_take ts (k + 1)
        have hsn : sizes (ts.take (k + 1)) = sizes (ts.take k) + t.size := by rw [take_get htk, sizes_app]; simp [sizes]
        have HSn := hid hsn
        have hkn : kidsGo (p + 1) (ts.take (k + 1)) = kidsGo (p + 1) (ts.take k) ++ [((p + 1 + sizes (ts.take k) : Nat) : Int)] := by rw [take_get htk, kidsGo_app]; simp [kidsGo]
        have HKn := hid hkn
        have hlenk : (kidsGo (p + 1) (ts.take k)).length = k := by rw [kidsGo_len, List.length_take]; omega
        have HSg := hid HBl.out.size
        obtain ⟨S, hS⟩ : ∃ S, S = sizes (ts.take k) := ⟨_, rfl⟩
        rw [← hS] at hsn HSn HKn ⊢
        obtain ⟨v6, w6, hr6, ho6, hg6, _⟩ := join_one 23 (c := ((p + 1 + S : Nat) : Int)) HOw.out (by omega) (by omega) HBl.out.size (by rw [hlenk]; omega)
        have hb6 := (below_step HBl.out (below_alloc _)).grown hg6 (Nat.le_trans HBl.out.size (below_alloc _).size) (fun j hj => own_blk HOw.out.2 hj)
        have HR6 := hid hr6
        have HO6 := hid (HKn.out ▸ ho6)
        have HB6 := hid hb6
        clear hS htk hkn hr6 ho6 hg6 hb6 hcu htvs hlenk
        cases t with
        | var =>
          unfold TV at htv
          subst htv
          simp only [Tr.size] at hsn HSn
          go_wp2_with (first
            | (at_builtin; refine wpList_append_run rfl _ _ _ rfl _ _ rfl rfl HR6.out ?_))
          refine (varNodes_any w6).mono ?_
          rintro e w2 ⟨rfl, hb2⟩
          have hwr : IntKind.i64.wrap ((p : Int) + 1 + S + 1) = ((p + 1 + (S + 1) : Nat) : Int) := by rw [IntWalk.i64_in _ ⟨by omega, by omega⟩]; omega
          have HO2 := hid (HO6.out.later hb2)
          have HB2 := hid (below_step HB6.out hb2)
          clear hb2
          go_wp2
          go_roundw
          case rel => exact ⟨k + 1, by omega, by go_num, by rw [HSn.out]; exact congrArg (Value.int .i64) (by omega), HO2.out, HB2.out⟩
          case measure => simp [intOf]; omega
        | app rs =>
          unfold TV at htv
          obtain ⟨b2, a2, cp2, rfl, hb2, _, h4, _, _, _⟩ := htv
          have h4r := (HB6.out.cell (p := ⟨b2, 1, none⟩) (HA.out b2 hb2)).trans h4
          simp only [Tr.size] at hsn HSn
          have hwr : IntKind.i64.wrap ((p : Int) + 1 + S + ((1 + sizes rs : Nat) : Int)) = ((p + 1 + (S + (1 + sizes rs)) : Nat) : Int) := by rw [IntWalk.i64_in _ ⟨by omega, by omega⟩]; omega
          go_wp2_with (first
            | (at_builtin; refine wpList_append_run rfl _ _ _ rfl _ _ rfl rfl HR6.out ?_))
          refine (appNodes_any b2 _ w6 h4r).mono ?_
          rintro e w2 ⟨rfl, hw2⟩
          have hw8 := hw2.symm
          subst hw8
          clear hw2
          go_wp2
          go_roundw
          case rel => exact ⟨k + 1, by omega, by go_num, by rw [HSn.out]; exact congrArg (Value.int .i64) (by omega), HO6.out, HB6.out⟩
          case measure => simp [intOf]; omega
      · have hke : k = ts.length := by omega
        subst hke
        rw [List.take_length] at HOw
        go_wp2
        go_ret
        exact ⟨_, rfl, HOw.out, HBl.out⟩

end Go.Proofs.YtjcgngfidnechabDoor

/- Where the term at a place ends; endOf walked. -/
namespace Go.Proofs.YtjcgngfidnechabDoor
open Go.RowKit Go.Maps

/-- A part of a row. -/
theorem Is.mid {w : World} {b off cap k m : Nat} {t : List Int} (h : Is w (.slice (some ⟨b, off, none⟩) t.length cap) t) (hk : k < t.length) (hm : k + m ≤ t.length) : Is w (.slice (some ⟨b, off + k, none⟩) m (cap - k)) ((t.drop k).take m) := by
  obtain ⟨ao, cap', e, h1, h2, h3⟩ := h
  simp only [Value.slice.injEq, true_and] at e
  obtain ⟨rfl, rfl⟩ := e
  obtain ⟨g, o, e, hg, hE⟩ := h3 (by omega)
  simp only [Option.some.injEq, Addr.mk.injEq, and_true] at e
  obtain ⟨rfl, rfl⟩ := e
  have hl : ((t.drop k).take m).length = m := by rw [List.length_take, List.length_drop]; omega
  refine ⟨some ⟨b, off + k, none⟩, cap - k, by rw [hl], by omega, by omega, fun _ => ⟨b, off + k, rfl, hg, fun j x hj => ?_⟩⟩
  have hjl := (List.getElem?_eq_some_iff.1 hj).1
  rw [List.getElem?_take_of_lt (by omega), List.getElem?_drop] at hj
  have := hE (k + j) x hj
  rw [show off + k + j * 1 = off + (k + j) * 1 by omega]
  exact this

/-- What is found at a row's head is a right term by itself. -/
theorem first_take {sig : List Sy} : ∀ (r : List Int) (m : Int) (i : Nat) (n : Int), firstT sig m i r = (n, 0) → ∃ k : Nat, n = (i : Int) + k ∧ 1 ≤ k ∧ k ≤ r.length ∧ firstT sig m i (r.take k) = (n, 0)
  | [], m, i, n, h => by simp [firstT] at h
  | c :: r, m, i, n, h => by
    rw [firstT_cons] at h
    cases hc : codeD sig c with
    | none => rw [hc] at h; simp at h
    | some e =>
      rw [hc] at h
      simp only at h
      by_cases h0 : m + e = 0
      · rw [if_pos h0] at h
        refine ⟨1, ?_, Nat.le_refl _, by simp, ?_⟩
        · have := congrArg Prod.fst h
          simp only at this
          omega
        · rw [List.take_succ_cons, List.take_zero, firstT_cons, hc]
          simp only
          rw [if_pos h0]
          exact h
      · rw [if_neg h0] at h
        obtain ⟨k, h1, h2, h3, h4⟩ := first_take r (m + e) (i + 1) n h
        refine ⟨k + 1, by omega, by omega, by simp; omega, ?_⟩
        rw [List.take_succ_cons, firstT_cons, hc]
        simp only
        rw [if_neg h0]
        exact h4

/-- Where the term at a place ends, and what is wrong. -/
def endP (sig : List Sy) (t : List Int) (p : Int) : Int × Int := if p < 0 ∨ (t.length : Int) ≤ p then (0, 33) else (p + (firstT sig 1 0 (t.drop p.toNat)).1, (firstT sig 1 0 (t.drop p.toNat)).2)

theorem endP_ok {sig : List Sy} {t : List Int} {p n : Int} (h : endP sig t p = (n, 0)) : ∃ k m : Nat, p = k ∧ k < t.length ∧ 1 ≤ m ∧ n = ((k + m : Nat) : Int) ∧ k + m ≤ t.length ∧ rowE sig ((t.drop k).take m) = 0 := by
  unfold endP at h
  by_cases hp : p < 0 ∨ (t.length : Int) ≤ p
  · rw [if_pos hp] at h
    simp at h
  · rw [if_neg hp] at h
    obtain ⟨k, rfl⟩ : ∃ k : Nat, p = k := ⟨p.toNat, by omega⟩
    rw [Int.toNat_natCast] at h
    simp only [Prod.mk.injEq] at h
    obtain ⟨m, h1, h2, h3, h4⟩ := first_take (t.drop k) 1 0 (firstT sig 1 0 (t.drop k)).1 (Prod.ext rfl h.2)
    simp only [Int.natCast_zero, Int.zero_add] at h1
    rw [List.length_drop] at h3
    refine ⟨k, m, rfl, by omega, h2, by omega, by omega, ?_⟩
    rw [row_first, h4, List.length_take, List.length_drop]
    simp only [Prod.mk.injEq, and_true]
    rw [h1]
    omega

theorem first_rng {sig : List Sy} : ∀ (r : List Int) (m : Int) (i : Nat), 0 ≤ (firstT sig m i r).1 ∧ (firstT sig m i r).1 ≤ (i : Int) + r.length
  | [], m, i => by simp [firstT]
  | c :: r, m, i => by
    rw [firstT_cons]
    cases hc : codeD sig c with
    | none => simp; omega
    | some e =>
      simp only
      by_cases h0 : m + e = 0
      · rw [if_pos h0]; simp; omega
      · rw [if_neg h0]
        have := first_rng (sig := sig) r (m + e) (i + 1)
        simp only [List.length_cons]
        omega

set_option maxRecDepth 100000 in
set_option maxHeartbeats 800000 in
theorem endOf_any (sv v : Value) (sig : List Sy) (t : List Int) (p : Int) (w : World) (hs : Sg w sv sig) (h : Is w v t) (ha : ArOk sig) (hb : t.length * 8 ≤ 140737488351232) (hp1 : -9223372036854775808 ≤ p) (hp2 : p ≤ 9223372036854775807) :
    Calls Tryd.prog 36 #[sv, v, .int .i64 p] w fun e w' => e = .returned (.tuple #[.int .i64 (endP sig t p).1, .int .i64 (endP sig t p).2]) ∧ w' = w := by
  obtain ⟨ao, cap, rfl, hao, hca, q0⟩ := Row.flat h
  unfold maxLen at hca
  have HS := hid hs
  have HI := hid h
  have HA := hid ha
  clear hs h ha q0
  by_cases hlo : p < 0
  · have HE : Hid (endP sig t p = (0, 33)) := by show _ = _; unfold endP; rw [if_pos (.inl hlo)]
    go_enter Tryd.func36, Tryd.ntmps36
    go_wp2
    go_ret2
    exact ⟨by rw [HE.out]; rfl, rfl⟩
  · obtain ⟨k, rfl⟩ : ∃ k : Nat, p = k := ⟨p.toNat, by omega⟩
    by_cases hhi : t.length ≤ k
    · have HE : Hid (endP sig t k = (0, 33)) := by show _ = _; unfold endP; rw [if_pos (.inr (by omega))]
      go_enter Tryd.func36, Tryd.ntmps36
      go_wp2
      go_ret2
      exact ⟨by rw [HE.out]; rfl, rfl⟩
    · have HE : Hid (endP sig t k = ((k : Int) + (firstT sig 1 0 (t.drop k)).1, (firstT sig 1 0 (t.drop k)).2)) := by show _ = _; unfold endP; rw [if_neg (by omega), Int.toNat_natCast]
      obtain ⟨b, off, c0, rfl, _⟩ := HI.out.at (k := 0) (by omega)
      have hI2 := HI.out.mid (k := k) (m := t.length - k) (by omega) (by omega)
      rw [List.take_of_length_le (by rw [List.length_drop]; exact Nat.le_refl _)] at hI2
      have HI2 := hid hI2
      have hrg := first_rng (sig := sig) (t.drop k) 1 0
      rw [List.length_drop] at hrg
      have hlt : k < t.length := by omega
      have hck : ¬ cap = k := by omega
      obtain ⟨N, hN⟩ : ∃ N, N = (firstT sig 1 0 (t.drop k)).1 := ⟨_, rfl⟩
      rw [← hN] at hrg HE
      have hw : IntKind.i64.wrap ((k : Int) + N) = (k : Int) + N := IntWalk.i64_in _ ⟨by omega, by omega⟩
      have HN := hid hN
      clear hI2 hN hhi
      go_enter Tryd.func36, Tryd.ntmps36
      go_wp2_with fail
      refine (firstTerm_any _ _ sig (t.drop k) w HS.out HI2.out HA.out (by rw [List.length_drop]; omega)).mono ?_
      rintro e w2 ⟨rfl, hw2⟩
      have hw8 := hw2.symm
      subst hw8
      clear hw2
      rw [← HN.out]
      go_wp2
      go_ret2
      exact ⟨by rw [HE.out]; rfl, rfl⟩

end Go.Proofs.YtjcgngfidnechabDoor

/- Kids and Sub walked. -/
namespace Go.Proofs.YtjcgngfidnechabDoor
open Go.RowKit Go.Maps

theorem empty_ints (w : World) {base : Nat} (hb : base ≤ w.heap.size) : (w.alloc (.cells #[] 3)).ownsRow base 3 1 (.slice (some ⟨w.heap.size, 0, none⟩) 0 0) 0 [] :=
  ⟨rfl, .inr ⟨w.heap.size, 0, #[], rfl, hb, heap_alloc_new _ _, Nat.le_refl _, by simp [maxLen], by simp, by simp⟩⟩

set_option maxRecDepth 100000 in
set_option maxHeartbeats 800000 in
theorem cloneI_any (v : Value) (t : List Int) (w : World) (h : Is w v t) (h0 : 0 < t.length) (hl : t.length * 8 ≤ 140737488355328) :
    Calls Tryd.prog 37 #[v] w fun e w' => ∃ v', e = .returned v' ∧ OwI w' w.heap.size v' t ∧ Below w.heap.size w w' := by
  have hq : ∀ (W : World) (a : Option Addr) (n c n' c' : Nat), (binOp .eql 23 (.slice a n c) (.slice none n' c')).run Tryd.prog W = .ok (.bool a.isNone) W := fun W a n c n' c' => Lib.run_eql_slice_nil W _ _ a n c n' c' under_ints
  obtain ⟨ao, cap, rfl, hao, hca, q0⟩ := Row.flat h
  obtain ⟨g, off, c0, rfl, _⟩ := h.at h0
  obtain ⟨v', w', hr, ho, hg⟩ := join_ints 23 (w := w.alloc (.cells #[] 3)) (base := w.heap.size) (x := .slice (some ⟨w.heap.size, 0, none⟩) 0 0) (xs := []) ⟨fun k x hk => (by simp at hk), empty_ints w (Nat.le_refl _)⟩ (h.kp (Kp.of_below (below_alloc _))) (below_alloc _).size (by simp; omega)
  rw [List.nil_append] at ho
  have HR := hid hr
  have HO := hid ho
  have HB := hid (grown_below (below_alloc _) hg (Nat.le_refl _))
  clear hr ho hg q0 h
  go_enter Tryd.func37, Tryd.ntmps37
  go_wp2_with (first
    | (at_builtin; refine wpList_append_run rfl _ _ _ rfl _ _ rfl rfl HR.out ?_))
  go_ret
  exact ⟨_, rfl, HO.out, HB.out⟩

/-- What is wrong with a term and a place; the term there; its arguments' places. -/
def placeE (sig : List Sy) (t : List Int) (p : Int) : Int := if termE sig t = 0 then (endP sig t p).2 else termE sig t

def subL (sig : List Sy) (t : List Int) (p : Int) : List Int := if placeE sig t p = 0 then (t.drop p.toNat).take ((endP sig t p).1.toNat - p.toNat) else []

def kidsL (sig : List Sy) (t : List Int) (p : Int) : List Int := match growR sig (subL sig t p) with | [T] => kidsR p.toNat T | _ => []

theorem placeE_ok {sig : List Sy} {t : List Int} {p : Int} (h : placeE sig t p = 0) : ArOk sig ∧ rowE sig t = 0 ∧ ∃ k m : Nat, p = k ∧ k < t.length ∧ 1 ≤ m ∧ endP sig t p = (((k + m : Nat) : Int), 0) ∧ k + m ≤ t.length ∧ subL sig t p = (t.drop k).take m ∧ rowE sig ((t.drop k).take m) = 0 := by
  have h0 := h
  unfold placeE at h
  by_cases ht : termE sig t = 0
  · rw [if_pos ht] at h
    have hsg : sigE sig = 0 := by
      unfold termE at ht
      by_cases hs : sigE sig = 0
      · exact hs
      · rw [if_neg hs] at ht; exact ht
    have hrw : rowE sig t = 0 := by unfold termE at ht; rw [if_pos hsg] at ht; exact ht
    obtain ⟨k, m, h1, h2, h3, h4, h5, h6⟩ := endP_ok (Prod.ext rfl h : endP sig t p = ((endP sig t p).1, 0))
    refine ⟨sigE_ok hsg, hrw, k, m, h1, h2, h3, Prod.ext h4 h, h5, ?_, h6⟩
    unfold subL
    rw [if_pos h0, h4, h1, Int.toNat_natCast, Int.toNat_natCast, show k + m - k = m by omega]
  · rw [if_neg ht] at h
    exact absurd h ht

theorem kidsL_bad {sig : List Sy} {t : List Int} {p : Int} (h : placeE sig t p ≠ 0) : kidsL sig t p = [] := by
  unfold kidsL subL
  rw [if_neg h]
  rfl

theorem subL_bad {sig : List Sy} {t : List Int} {p : Int} (h : placeE sig t p ≠ 0) : subL sig t p = [] := by
  unfold subL
  rw [if_neg h]

set_option maxRecDepth 100000 in
set_option maxHeartbeats 800000 in
theorem sub_any (sv v : Value) (sig : List Sy) (t : List Int) (p : Int) (w : World) (hs : Sg w sv sig) (h : Is w v t) (hT : Tabs w) (hb : t.length * 8 ≤ 140737488351232) (hp1 : -9223372036854775808 ≤ p) (hp2 : p ≤ 9223372036854775807) :
    Calls Tryd.prog 12 #[sv, v, .int .i64 p] w fun e w' => ∃ v', e = .returned (.tuple #[v', .int .i64 (placeE sig t p)]) ∧ OwI w' w.heap.size v' (subL sig t p) ∧ Below w.heap.size w w' := by
  have HS := hid hs
  have HI := hid h
  have HT := hid hT
  have HP := hid (And.intro hp1 hp2)
  clear hs h hT hp1 hp2
  go_enter Tryd.func12, Tryd.ntmps12
  go_wp2_with fail
  refine (check_any sv v sig t w HS.out HI.out HT.out hb).mono ?_
  rintro e w1 ⟨rfl, hb1⟩
  have HB1 := hid hb1
  clear hb1
  by_cases hte : termE sig t = 0
  · have HPl : Hid (placeE sig t p = (endP sig t p).2) := by show _ = _; unfold placeE; rw [if_pos hte]
    have ha : ArOk sig := by
      unfold termE at hte
      by_cases hs : sigE sig = 0
      · exact sigE_ok hs
      · rw [if_neg hs] at hte; exact absurd hte hs
    have HA := hid ha
    rw [hte]
    clear hte ha
    go_wp2_with fail
    refine (endOf_any sv v sig t p w1 (HS.out.kp (Kp.of_below HB1.out)) (HI.out.kp (Kp.of_below HB1.out)) HA.out hb HP.out.1 HP.out.2).mono ?_
    rintro e w2 ⟨rfl, hw2⟩
    have hw8 := hw2.symm
    subst hw8
    clear hw2
    by_cases he : (endP sig t p).2 = 0
    · obtain ⟨_, _, k, m, hk, hkl, hm1, hend, hkm, hsub, hrow⟩ := placeE_ok (HPl.out.trans he)
      subst hk
      have HE := hid (HPl.out.trans he)
      have HSub := hid hsub
      have hIm := HI.out.kp (Kp.of_below HB1.out)
      obtain ⟨ao, cap, rfl, hao, hca, q0⟩ := Row.flat HI.out
      obtain ⟨b, off, c0, rfl, _⟩ := HI.out.at (k := 0) (by omega)
      unfold maxLen at hca
      have hI2 := hIm.mid hkl hkm
      have hlm : ((t.drop k).take m).length = m := by rw [List.length_take, List.length_drop]; omega
      have HCl := hid (cloneI_any _ _ _ hI2 (by omega) (by rw [hlm]; omega))
      have hck : ¬ cap = k := by omega
      have hkm2 : k + m - k = m := by omega
      have hkc : k + m ≤ cap := by omega
      have hkc2 : k ≤ k + m := by omega
      rw [hend]
      clear hIm q0 hI2 hlm he hend hsub hrow
      go_wp2_with fail
      refine HCl.out.mono ?_
      rintro e w2 ⟨v', rfl, ho, hb2⟩
      have HO := hid (ho.mono HB1.out.size)
      have HB2 := hid (below_step HB1.out hb2)
      clear ho hb2
      go_wp2
      go_ret2
      exact ⟨_, by rw [HE.out]; rfl, by rw [HSub.out]; exact HO.out, HB2.out⟩
    · have HNe := hid (fun h => he (HPl.out.symm.trans h) : placeE sig t p ≠ 0)
      generalize (endP sig t p).2 = E at he HPl ⊢
      generalize (endP sig t p).1 = E1
      have heb : (E != 0) = true := by simpa using he
      go_wp2
      go_ret2
      exact ⟨_, by rw [HPl.out]; rfl, by rw [subL_bad HNe.out]; exact nilI _ _, HB1.out⟩
  · have HPl : Hid (placeE sig t p = termE sig t) := by show _ = _; unfold placeE; rw [if_neg hte]
    have HNe := hid (fun h => hte (HPl.out.symm.trans h) : placeE sig t p ≠ 0)
    generalize termE sig t = E at hte HPl ⊢
    have heb : (E != 0) = true := by simpa using hte
    go_wp2
    go_ret2
    exact ⟨_, by rw [HPl.out]; rfl, by rw [subL_bad HNe.out]; exact nilI _ _, HB1.out⟩

set_option maxRecDepth 100000 in
set_option maxHeartbeats 800000 in
theorem kids_any (sv v : Value) (sig : List Sy) (t : List Int) (p : Int) (w : World) (hs : Sg w sv sig) (h : Is w v t) (hT : Tabs w) (hb : t.length * 16 ≤ 140737488351232) (hp1 : -9223372036854775808 ≤ p) (hp2 : p ≤ 9223372036854775807) :
    Calls Tryd.prog 30 #[sv, v, .int .i64 p] w fun e w' => ∃ v', e = .returned (.tuple #[v', .int .i64 (placeE sig t p)]) ∧ OwI w' w.heap.size v' (kidsL sig t p) ∧ Below w.heap.size w w' := by
  have HS := hid hs
  have HI := hid h
  have HT := hid hT
  have HP := hid (And.intro hp1 hp2)
  clear hs h hT hp1 hp2
  go_enter Tryd.func30, Tryd.ntmps30
  go_wp2_with fail
  refine (check_any sv v sig t w HS.out HI.out HT.out (by omega)).mono ?_
  rintro e w1 ⟨rfl, hb1⟩
  have HB1 := hid hb1
  clear hb1
  by_cases hte : termE sig t = 0
  · have HPl : Hid (placeE sig t p = (endP sig t p).2) := by show _ = _; unfold placeE; rw [if_pos hte]
    have ha : ArOk sig := by
      unfold termE at hte
      by_cases hs : sigE sig = 0
      · exact sigE_ok hs
      · rw [if_neg hs] at hte; exact absurd hte hs
    have HA := hid ha
    rw [hte]
    clear hte ha
    go_wp2_with fail
    refine (endOf_any sv v sig t p w1 (HS.out.kp (Kp.of_below HB1.out)) (HI.out.kp (Kp.of_below HB1.out)) HA.out (by omega) HP.out.1 HP.out.2).mono ?_
    rintro e w2 ⟨rfl, hw2⟩
    have hw8 := hw2.symm
    subst hw8
    clear hw2
    by_cases he : (endP sig t p).2 = 0
    · obtain ⟨_, _, k, m, hk, hkl, hm1, hend, hkm, hsub, hrow⟩ := placeE_ok (HPl.out.trans he)
      subst hk
      have HE := hid (HPl.out.trans he)
      have HSub := hid hsub
      have hIm := HI.out.kp (Kp.of_below HB1.out)
      obtain ⟨ao, cap, rfl, hao, hca, q0⟩ := Row.flat HI.out
      obtain ⟨b, off, c0, rfl, _⟩ := HI.out.at (k := 0) (by omega)
      unfold maxLen at hca
      have hI2 := hIm.mid hkl hkm
      have hlm : ((t.drop k).take m).length = m := by rw [List.length_take, List.length_drop]; omega
      have HGr := hid (grow_any sv _ sig _ _ (HS.out.kp (Kp.of_below HB1.out)) hI2 HA.out hrow (by rw [hlm]; omega))
      have hck : ¬ cap = k := by omega
      have hkm2 : k + m - k = m := by omega
      have hkc : k + m ≤ cap := by omega
      have hkc2 : k ≤ k + m := by omega
      rw [hend]
      clear hIm q0 hI2 hlm he hend hsub hrow
      go_wp2_with fail
      refine HGr.out.mono ?_
      rintro e w2 ⟨u, T, A, rfl, hgr, htv, hA, hb2⟩
      have HKl : Hid (kidsL sig t k = kidsR k T) := by show _ = _; unfold kidsL; rw [HSub.out, hgr, Int.toNat_natCast]
      have hsz : T.size = m := by
        have h1 := growR_sizes sig ((t.drop k).take m)
        rw [hgr, List.length_take, List.length_drop] at h1
        simp only [sizes] at h1
        omega
      have HKd := hid (kidsOf_any u T A k w2 htv (fun b hb => (hA b hb).2) (by omega) (by omega))
      have HB2 := hid (below_step HB1.out hb2)
      clear hgr htv hA hb2 hsz HGr
      go_wp2_with fail
      refine HKd.out.mono ?_
      rintro e w3 ⟨v', rfl, ho, hb3⟩
      have HO := hid (ho.mono HB2.out.size)
      have HB3 := hid (below_step HB2.out hb3)
      clear ho hb3 HKd
      go_wp2
      go_ret2
      exact ⟨_, by rw [HE.out]; rfl, by rw [HKl.out]; exact HO.out, HB3.out⟩
    · have HNe := hid (fun h => he (HPl.out.symm.trans h) : placeE sig t p ≠ 0)
      generalize (endP sig t p).2 = E at he HPl ⊢
      generalize (endP sig t p).1 = E1
      have heb : (E != 0) = true := by simpa using he
      go_wp2
      go_ret2
      exact ⟨_, by rw [HPl.out]; rfl, by rw [kidsL_bad HNe.out]; exact nilI _ _, HB1.out⟩
  · have HPl : Hid (placeE sig t p = termE sig t) := by show _ = _; unfold placeE; rw [if_neg hte]
    have HNe := hid (fun h => hte (HPl.out.symm.trans h) : placeE sig t p ≠ 0)
    generalize termE sig t = E at hte HPl ⊢
    have heb : (E != 0) = true := by simpa using hte
    go_wp2
    go_ret2
    exact ⟨_, by rw [HPl.out]; rfl, by rw [kidsL_bad HNe.out]; exact nilI _ _, HB1.out⟩

end Go.Proofs.YtjcgngfidnechabDoor

/- A term's arguments, one behind the other. -/
namespace Go.Proofs.YtjcgngfidnechabDoor
open Go.RowKit Go.Maps

/-- What stands at the head of a row of terms. -/
theorem first_part {sig : List Sy} (ha : ArOk sig) : ∀ (r : List Int) (d m : Int) (j i : Nat), 1 ≤ d → d ≤ m → firstT sig m i r = ((i : Int) + r.length, 0) →
    ∃ k : Nat, 1 ≤ k ∧ k ≤ r.length ∧ firstT sig d j r = ((j : Int) + k, 0) ∧ (m = d → k = r.length) ∧ (d < m → firstT sig (m - d) (i + k) (r.drop k) = ((i : Int) + r.length, 0))
  | [], d, m, j, i, _, _, h => by simp [firstT] at h
  | c :: r, d, m, j, i, hd, hm, h => by
    rw [firstT_cons] at h ⊢
    cases hc : codeD sig c with
    | none => rw [hc] at h; simp at h
    | some e =>
      have he := codeD_ge ha hc
      rw [hc] at h
      simp only at h ⊢
      by_cases h0 : m + e = 0
      · rw [if_pos h0] at h
        have hl : r.length = 0 := by
          have := congrArg Prod.fst h
          simp at this
          omega
        refine ⟨1, Nat.le_refl _, by simp, by rw [if_pos (by omega)]; simp, fun _ => by simp [hl], fun h1 => by omega⟩
      · rw [if_neg h0] at h
        by_cases h1 : d + e = 0
        · refine ⟨1, Nat.le_refl _, by simp, by rw [if_pos h1]; simp, fun h2 => by omega, fun h2 => ?_⟩
          rw [List.drop_succ_cons, List.drop_zero, show m - d = m + e by omega]
          exact h
        · obtain ⟨k, k1, k2, k3, k4, k5⟩ := first_part ha r (d + e) (m + e) (j + 1) (i + 1) (by omega) (by omega) (by rw [h]; simp only [List.length_cons, Prod.mk.injEq, and_true]; omega)
          refine ⟨k + 1, by omega, by simp; omega, by rw [if_neg h1, k3]; simp only [Prod.mk.injEq, and_true]; omega, fun h2 => by have := k4 (by omega); simp; omega, fun h2 => ?_⟩
          have h3 := k5 (by omega)
          rw [List.drop_succ_cons, show m - d = m + e - (d + e) by omega, show i + (k + 1) = i + 1 + k by omega, h3]
          simp only [List.length_cons, Prod.mk.injEq, and_true]
          omega

/-- A row of m terms is taken apart. -/
theorem split_first {sig : List Sy} (ha : ArOk sig) : ∀ (m : Nat) (r : List Int) (i : Nat), 1 ≤ m → firstT sig m i r = ((i : Int) + r.length, 0) → ∃ us : List (List Int), us.length = m ∧ r = us.flatten ∧ ∀ u ∈ us, rowE sig u = 0
  | 0, _, _, h, _ => absurd h (by omega)
  | m + 1, r, i, _, h => by
    obtain ⟨k, k1, k2, k3, k4, k5⟩ := first_part ha r 1 ((m + 1 : Nat) : Int) 0 i (by omega) (by omega) h
    obtain ⟨k', e1, _, _, e4⟩ := first_take r 1 0 _ k3
    have hkk : k' = k := by omega
    subst hkk
    have hr : rowE sig (r.take k') = 0 := by
      rw [row_first, e4, List.length_take]
      simp only [Prod.mk.injEq, and_true]
      omega
    by_cases hm : m = 0
    · subst hm
      have := k4 (by omega)
      refine ⟨[r], rfl, by simp, fun u hu => ?_⟩
      rw [List.mem_singleton] at hu
      subst hu
      rw [List.take_of_length_le (by omega)] at hr
      exact hr
    · have h5 := k5 (by omega)
      rw [show ((m + 1 : Nat) : Int) - 1 = (m : Int) by omega] at h5
      obtain ⟨us, u1, u2, u3⟩ := split_first ha m (r.drop k') (i + k') (by omega) (by rw [h5, List.length_drop]; simp only [Prod.mk.injEq, and_true]; omega)
      refine ⟨r.take k' :: us, by simp [u1], by rw [List.flatten_cons, ← u2, List.take_append_drop], fun u hu => ?_⟩
      rcases List.mem_cons.1 hu with rfl | hu
      · exact hr
      · exact u3 u hu

/-- What grows of a row behind another one. -/
theorem grow_behind {sig : List Sy} (ha : ArOk sig) (v : List Int) : ∀ (u p : List Int), firstT sig 1 0 (p ++ u) = (((p ++ u).length : Int), 0) → growR sig (u ++ v) = growR sig v ++ growR sig u
  | [], p, _ => by simp [growR]
  | c :: u, p, h => by
    have ih := grow_behind ha v u (p ++ [c]) (by simpa using h)
    show growStep sig (growR sig (u ++ v)) c = growR sig v ++ growStep sig (growR sig u) c
    rw [ih]
    unfold growStep
    by_cases hc : c < 0
    · rw [if_pos hc, if_pos hc, List.append_assoc]
    · rw [if_neg hc, if_neg hc]
      obtain ⟨_, h2⟩ := grow_code ha p c u 1 0 (by omega) (by rw [h]; simp) hc
      rw [List.length_append, show (growR sig v).length + (growR sig u).length - arN sig c = (growR sig v).length + ((growR sig u).length - arN sig c) by omega, List.take_length_add_append, List.drop_length_add_append, List.append_assoc]

/-- The trees of terms one behind the other. -/
theorem grow_flat {sig : List Sy} (ha : ArOk sig) : ∀ us : List (List Int), (∀ u ∈ us, rowE sig u = 0) → (growR sig us.flatten).reverse.map Tr.size = us.map List.length
  | [], _ => by simp [growR]
  | u :: us, h => by
    obtain ⟨T, h1, h2⟩ := grow_one ha (h u (by simp))
    have h3 := grow_behind ha us.flatten u [] (by rw [List.nil_append]; exact row_first.1 (h u (by simp)))
    rw [List.flatten_cons, h3, h1, List.reverse_append, List.map_append, grow_flat ha us (fun x hx => h x (by simp [hx]))]
    simp [h2]

/-- Places by lengths. -/
def places : Nat → List Nat → List Int
  | _, [] => []
  | p, n :: ns => (p : Int) :: places (p + n) ns

theorem kids_places : ∀ (p : Nat) (ts : List Tr), kidsGo p ts = places p (ts.map Tr.size)
  | _, [] => rfl
  | p, t :: ts => by simp only [kidsGo, List.map_cons, places, kids_places (p + t.size) ts]

theorem places_len : ∀ (p : Nat) (ns : List Nat), (places p ns).length = ns.length
  | _, [] => rfl
  | p, n :: ns => by simp only [places, List.length_cons, places_len (p + n) ns]

theorem places_at : ∀ (us : List (List Int)) (p k : Nat), k < us.length → (places p (us.map List.length))[k]? = some ((p + (us.take k).flatten.length : Nat) : Int)
  | [], _, k, h => by simp at h
  | u :: us, p, 0, _ => by simp [places]
  | u :: us, p, k + 1, h => by
    rw [List.map_cons, places, List.getElem?_cons_succ, places_at us (p + u.length) k (by simpa using h), List.take_succ_cons, List.flatten_cons, List.length_append]
    simp only [Option.some.injEq]
    omega

/-- A symbol's arguments. -/
theorem kids_split {sig : List Sy} (ha : ArOk sig) {c : Int} {r : List Int} (h : rowE sig (c :: r) = 0) (hc : ¬ c < 0) :
    ∃ us : List (List Int), r = us.flatten ∧ (∀ u ∈ us, rowE sig u = 0) ∧ ∃ T, growR sig (c :: r) = [T] ∧ kidsR 0 T = places 1 (us.map List.length) := by
  have h1 := row_first.1 h
  rw [firstT_cons] at h1
  cases hd : codeD sig c with
  | none => rw [hd] at h1; simp at h1
  | some e =>
    rw [hd] at h1
    simp only at h1
    obtain ⟨k1, _⟩ := codeD_ar ha hd hc
    obtain ⟨us, u1, u2, u3⟩ : ∃ us : List (List Int), us.length = arN sig c ∧ r = us.flatten ∧ ∀ u ∈ us, rowE sig u = 0 := by
      by_cases h0 : 1 + e = 0
      · rw [if_pos h0] at h1
        have hl : r.length = 0 := by
          have := congrArg Prod.fst h1
          simp at this
          omega
        exact ⟨[], by simp; omega, by rw [List.eq_nil_of_length_eq_zero hl]; rfl, fun u hu => by cases hu⟩
      · rw [if_neg h0, show (1 : Int) + e = (arN sig c : Int) by omega] at h1
        exact split_first ha _ r (0 + 1) (by omega) (by rw [h1]; simp only [List.length_cons, Prod.mk.injEq, and_true]; omega)
    have hg := grow_flat ha us u3
    have hl : (growR sig r).length = arN sig c := by
      have := congrArg List.length hg
      rw [List.length_map, List.length_map, List.length_reverse, ← u2] at this
      omega
    refine ⟨us, u2, u3, .app (growR sig r).reverse, ?_, ?_⟩
    · show growStep sig (growR sig r) c = _
      unfold growStep
      rw [if_neg hc, hl, Nat.sub_self, List.take_zero, List.drop_zero, List.nil_append]
    · rw [kidsR, kids_places, u2, hg]

theorem term_parts {sig : List Sy} {t : List Int} (h : termE sig t = 0) : sigE sig = 0 ∧ rowE sig t = 0 := by
  unfold termE at h
  by_cases hs : sigE sig = 0
  · rw [if_pos hs] at h; exact ⟨hs, h⟩
  · rw [if_neg hs] at h; exact absurd h hs

/-- The term that stands at a place. -/
theorem sub_at {sig : List Sy} {t p u q : List Int} (ht : termE sig t = 0) (hu : rowE sig u = 0) (he : t = p ++ (u ++ q)) : placeE sig t p.length = 0 ∧ subL sig t p.length = u := by
  have ha := sigE_ok (term_parts ht).1
  have h1 := first_app ha u 1 0 (by omega) (by rw [row_first.1 hu]; simp) 1 0 q (by omega)
  rw [if_pos rfl] at h1
  have hul : 0 < u.length := by
    cases u with
    | nil => simp [rowE, firstT] at hu
    | cons c u => simp
  have h2 : endP sig t p.length = (((p.length + u.length : Nat) : Int), 0) := by
    unfold endP
    rw [if_neg (by rw [he, List.length_append, List.length_append]; omega), Int.toNat_natCast, he, List.drop_left, h1]
    simp only [Prod.mk.injEq, and_true]
    omega
  have h3 : placeE sig t p.length = 0 := by unfold placeE; rw [if_pos ht, h2]
  refine ⟨h3, ?_⟩
  unfold subL
  rw [if_pos h3, h2, Int.toNat_natCast, Int.toNat_natCast, show p.length + u.length - p.length = u.length by omega, he, List.drop_left, List.take_left]

/-- The arguments of a right term's root. -/
theorem root_kids {sig : List Sy} {c : Int} {r : List Int} (ht : termE sig (c :: r) = 0) (hc : ¬ c < 0) :
    placeE sig (c :: r) 0 = 0 ∧ ∃ us : List (List Int), r = us.flatten ∧ (∀ u ∈ us, rowE sig u = 0) ∧ kidsL sig (c :: r) 0 = places 1 (us.map List.length) := by
  obtain ⟨hs, hr⟩ := term_parts ht
  obtain ⟨h1, h2⟩ := sub_at (p := []) (q := []) ht hr (by simp)
  obtain ⟨us, u1, u2, T, u3, u4⟩ := kids_split (sigE_ok hs) hr hc
  refine ⟨h1, us, u1, u2, ?_⟩
  have h3 : subL sig (c :: r) 0 = c :: r := h2
  unfold kidsL
  rw [h3, u3]
  exact u4

/-- Where a substitution meets none of the variables, nothing is done. -/
theorem laid_unmet (f : Int → Option (List Int)) (t : List Int) (h : ∀ c ∈ t, c < 0 → f (-1 - c) = none) : laidL f t = t := by
  unfold laidL
  induction t with
  | nil => rfl
  | cons c t ih =>
    rw [List.flatMap_cons, ih (fun x hx => h x (by simp [hx]))]
    have : piece f c = [c] := by
      unfold piece
      by_cases hc : c < 0
      · simp [hc, h c (by simp) hc]
      · simp [hc]
    rw [this]
    rfl

end Go.Proofs.YtjcgngfidnechabDoor
