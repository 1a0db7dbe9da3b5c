/- Texts of the proof, one behind the other. -/
import Derived.Test.YtcijfaijjpkdoaaDoorOwn5
import Derived.Deep.DeepAppendRoom
import Derived.Test.YtcijfaijjpkdoaaDoorOwn2
import Derived.Test.YtcijfaijjpkdoaaDoorOwn3
import Derived.Test.YtcijfaijjpkdoaaDoorOwn4
/- Rows that are spoilt; rows of one's own that lie apart. -/
namespace Go.Proofs.YtcijfaijjpkdoaaDoor
open Go.RowKit Go.Maps Go.BigFrame

/-- One element more behind such a slice. -/
theorem append_spl (t ty e : TypeId) (i : TypeInfo) (z : Value) (bytes : Nat) (ht : Tryd.prog.underlying t = some (.slice e)) (hi : Tryd.prog.info? e = some i) (hz : i.zero = some z) (hsize : i.size = 1) (hby : i.bytes = bytes) (hzs : z.cells.size = 1)
    {w : World} {b T : Nat} {ao : Option Addr} {n cap : Nat} (h : RowS w b T e (.slice ao n cap) n) {ad : Addr} {c : Nat} {x : Value} (hx : w.cell? ad = some x) (h1 : x.oneCell' = true) (hbytes : (n + 1) * bytes ≤ 140737488355328) (hn : n + 1 ≤ maxLen) :
    ∃ g' cap' w', (Builtin.append_ #[t, t] ty #[.slice ao n cap, .slice (some ad) 1 c]).run Tryd.prog w = .ok (.slice (some ⟨g', 0, none⟩) (n + 1) cap') w' ∧ Shp w' g' e cap' ∧ n + 1 ≤ cap' ∧ cap' ≤ maxLen ∧
      ((b ≤ g' ∧ g' < T) ∨ w.heap.size ≤ g') ∧ Spl b T w w' ∧ ∀ (gp : Nat) (e' : TypeId) (m : Nat), Shp w gp e' m → e' ≠ e → w'.heap[gp]? = w.heap[gp]? := by
  have hnews : ∀ (j : Nat) (u : Value), [x][j]? = some u → w.cell? (ad.add j) = some u := fun j u hj => by
    cases j with
    | zero => simp at hj; subst hj; simpa [Addr.add] using hx
    | succ j => simp at hj
  have hone : ∀ u ∈ [x], u.oneCell' = true := fun u hu => by simp at hu; subst hu; exact h1
  have old : ∀ w', w.grownBy w' none → Spl b T w w' ∧ ∀ (gp : Nat) (e' : TypeId) (m : Nat), Shp w gp e' m → e' ≠ e → w'.heap[gp]? = w.heap[gp]? := fun w' hg => by
    have hbl : Below w.heap.size w w' := ⟨hg.os, hg.tape, hg.output, hg.size, fun k hk => hg.block k hk (by simp)⟩
    exact ⟨Spl.below hbl, fun gp e' m hs _ => hbl.block gp hs.lt⟩
  have new : ∀ (v' : Value) (w' : World) (xs : List Value), w'.ownsRow w.heap.size e 1 v' (n + 1) xs → ∃ g' cap', v' = .slice (some ⟨g', 0, none⟩) (n + 1) cap' ∧ Shp w' g' e cap' ∧ n + 1 ≤ cap' ∧ cap' ≤ maxLen ∧ w.heap.size ≤ g' := fun v' w' xs ho => by
    rcases ho.2 with ⟨_, h0⟩ | ⟨g, cap', cur, hv, hb, hg, hc, hm, hs, _⟩
    · omega
    · exact ⟨g, cap', hv, ⟨cur, hg, by omega⟩, hc, hm, hb⟩
  rcases h with ⟨hv, rfl⟩ | ⟨g, cap', hv, hb1, hb2, hsh, hc, hm⟩
  · rw [hv]
    obtain ⟨v', w', hr, ho, hg, _⟩ := run_append_own (P := Tryd.prog) w w.heap.size t ty e i z 1 bytes ht hi hz hsize hby hzs (by decide) (.slice none 0 0) 0 [] (World.ownsRow_nil w _ e 1) ad 1 c [x] rfl hnews hone (by unfold maxLen; omega) hbytes (Nat.le_refl _)
    obtain ⟨g', cap', rfl, hs', h2, h3, h4⟩ := new v' w' _ ho
    exact ⟨g', cap', w', hr, hs', h2, h3, .inr h4, (old w' hg).1, (old w' hg).2⟩
  · simp only [Value.slice.injEq, true_and] at hv
    obtain ⟨rfl, rfl⟩ := hv
    obtain ⟨cur, hg, hcs⟩ := hsh
    have hown : w.ownsRow b e 1 (.slice (some ⟨g, 0, none⟩) n cap) n (cur.toList.take n) := by
      refine ⟨by rw [List.length_take, Array.length_toList]; omega, .inr ⟨g, cap, cur, rfl, hb1, hg, hc, hm, by omega, by rw [Nat.mul_one]⟩⟩
    by_cases hroom : n + 1 ≤ cap
    · obtain ⟨w', hr, ho, hgr⟩ := run_append_own_spare (P := Tryd.prog) w b t ty e i 1 ht hi hsize g n cap _ hown ad 1 c [x] rfl hnews hone hroom
      have hs' : Shp w' g e cap := by
        rcases ho.2 with ⟨h0, _⟩ | ⟨g2, cap2, cur2, hv2, _, hg2, _, _, hs2, _⟩
        · cases h0
        · simp only [Value.slice.injEq, Option.some.injEq, Addr.mk.injEq, and_true, true_and] at hv2
          obtain ⟨rfl, rfl⟩ := hv2
          exact ⟨cur2, hg2, by omega⟩
      refine ⟨g, cap, w', hr, hs', hroom, hm, .inl ⟨hb1, hb2⟩, ⟨hgr.os, hgr.tape, hgr.output, hgr.size, fun k hk hbk => hgr.block k hk (by simp; omega), fun k e' m hk => ?_⟩, fun gp e' m hk hne => hgr.block gp hk.lt ?_⟩
      · by_cases hkg : k = g
        · subst hkg
          obtain ⟨cur3, hg3, hn3⟩ := hk
          rw [hg] at hg3
          simp only [Option.some.injEq, Obj.cells.injEq] at hg3
          obtain ⟨rfl, rfl, _⟩ := hg3
          rw [← hn3, hcs]
          exact hs'
        · have hlt := hk.lt
          obtain ⟨cur3, hg3, hn3⟩ := hk
          exact ⟨cur3, by rw [hgr.block k hlt (by simp; exact hkg)]; exact hg3, hn3⟩
      · have := hk.ne ⟨cur, hg, hcs⟩ hne
        simpa using this
    · obtain ⟨v', w', hr, ho, hgr⟩ := run_append_arg_grows (P := Tryd.prog) w t ty e i z 1 bytes ht hi hz hsize hby hzs (by decide) ⟨g, 0, none⟩ n cap (cur.toList.take n) (by rw [List.length_take, Array.length_toList]; omega) (fun j u hj => by
        have hj2 := (List.getElem?_eq_some_iff.1 hj).1
        rw [List.length_take, Array.length_toList] at hj2
        rw [Addr.add_lit, Nat.zero_add, cell_of_row _ _ _ _ _ _ hg]
        rw [List.getElem?_take_of_lt (by omega)] at hj
        simpa using hj) ad 1 c [x] rfl hnews (by omega) (by unfold maxLen at hn ⊢; omega) hbytes
      obtain ⟨g', cap', rfl, hs', h2, h3, h4⟩ := new v' w' _ ho
      exact ⟨g', cap', w', hr, hs', h2, h3, .inr h4, (old w' hgr).1, (old w' hgr).2⟩

theorem after_append {b t gp m : Nat} {e e' : TypeId} {w wn w4 wo : World} {o : Obj} (h : Spl b t w wn) (hg : wn.heap[gp]? = wo.heap[gp]?) (h4 : Spl b t (wn.alloc o) w4) (hk : ∀ (gp : Nat) (e' : TypeId) (m : Nat), Shp (wn.alloc o) gp e' m → e' ≠ e → w4.heap[gp]? = (wn.alloc o).heap[gp]?) (hs : Shp w gp e' m) (hne : e' ≠ e) :
    Spl b t w w4 ∧ w4.heap[gp]? = wo.heap[gp]? := by
  have h5 := h.trans (Spl.below (below_alloc o))
  refine ⟨h5.trans h4, ?_⟩
  rw [hk gp e' m (h5.shape _ _ _ hs) hne, (below_alloc o).block gp (h.shape _ _ _ hs).lt]
  exact hg

/-- Slices that lie in unlike blocks. -/
def Dis (v u : Value) : Prop := ∀ g, v.ownBlock = some g → u.ownBlock ≠ some g

theorem Dis.symm {v u : Value} (h : Dis v u) : Dis u v := fun g h1 h2 => h g h2 h1

theorem Dis.keep {v u : Value} (h : Dis v u) : v.ownBlock = none ∨ v.ownBlock ≠ u.ownBlock := by
  cases hv : v.ownBlock with
  | none => exact .inl rfl
  | some g => exact .inr fun e => h g hv e.symm

theorem own_blk_lt {w : World} {base : Nat} {e : TypeId} {s m j : Nat} {v : Value} {xs : List Value} (h : w.ownsRow base e s v m xs) (hj : v.ownBlock = some j) : j < w.heap.size := by
  rcases h.2 with ⟨rfl, _⟩ | ⟨g', cap, cur, rfl, hb, hg, _⟩
  · cases hj
  · cases hj
    exact (Array.getElem?_eq_some_iff.1 hg).1

theorem Dis.grow {w w2 : World} {base : Nat} {v u u' : Value} {xs : List Int} (h : Dis v u) (ho : OwI w base v xs) (hs : w.heap.size ≤ w2.heap.size) (hu : u'.ownBlock = u.ownBlock ∨ u'.ownBlock = some w2.heap.size) : Dis v u' := fun g h1 h2 => by
  rcases hu with hu | hu
  · rw [hu] at h2
    exact h g h1 h2
  · have := own_blk_lt ho.2 h1
    rw [hu] at h2
    cases h2
    omega

/-- A number joined to a row of one's own, with what becomes of its block. -/
theorem join_one (ty : TypeId) {w : World} {base : Nat} {x : Value} {xs : List Int} {c : Int} (ho : OwI w base x xs) (h1 : -9223372036854775808 ≤ c) (h2 : c ≤ 9223372036854775807) (hb : base ≤ w.heap.size) (hl : (xs.length + 1) * 8 ≤ 140737488355328) :
    ∃ v' w', (Builtin.append_ #[23, 23] ty #[x, .slice (some ⟨w.heap.size, 0, none⟩) 1 1]).run Tryd.prog (w.alloc (.cells #[.int .i64 c] 3)) = .ok v' w' ∧ OwI w' base v' (xs ++ [c]) ∧ (w.alloc (.cells #[.int .i64 c] 3)).grownBy w' x.ownBlock ∧ (v'.ownBlock = x.ownBlock ∨ v'.ownBlock = some (w.alloc (.cells #[.int .i64 c] 3)).heap.size) := by
  obtain ⟨i0, hi, hz0, hz1, hz2⟩ := info_parts info_int
  obtain ⟨v', w', hr, g2, g3, _, g5⟩ := run_append_own_at (P := Tryd.prog) (w.alloc (.cells #[.int .i64 c] 3)) base 23 ty 3 i0 _ 1 8 under_ints hi hz0 hz1 hz2 rfl (by decide) x xs.length (xs.map I64) (ownsRow_later ho.2 (below_alloc _)) ⟨w.heap.size, 0, none⟩ 1 1 [I64 c] rfl
    (fun j u hj => by
      rw [Addr.add_lit, Nat.zero_add]
      cases j with
      | zero => simp at hj; subst hj; exact cell_new rfl
      | succ j => simp at hj) (fun u hu => by simp at hu; subst hu; rfl) (by unfold maxLen; omega) (by omega) (Nat.le_trans hb (below_alloc _).size)
  refine ⟨v', w', hr, ⟨fun k y hk => ?_, ?_⟩, g3, g5⟩
  · by_cases hkl : k < xs.length
    · rw [List.getElem?_append_left hkl] at hk
      exact ho.1 k y hk
    · rw [List.getElem?_append_right (by omega)] at hk
      have hk0 : k - xs.length = 0 := by
        have := (List.getElem?_eq_some_iff.1 hk).1
        simp at this
        omega
      rw [hk0] at hk
      simp at hk
      subst hk
      exact ⟨h1, h2⟩
  · rw [List.length_append, List.map_append]
    exact g2

end Go.Proofs.YtcijfaijjpkdoaaDoor

/- kidsOf walked. -/
namespace Go.Proofs.YtcijfaijjpkdoaaDoor
open Go.RowKit Go.Maps

/-- The places of trees that stand one behind the other. -/
def kidsGo : Nat → List Tr → List Int
  | _, [] => []
  | p, t :: ts => (p : Int) :: kidsGo (p + t.size) ts

theorem kidsGo_app : ∀ (p : Nat) (a b : List Tr), kidsGo p (a ++ b) = kidsGo p a ++ kidsGo (p + sizes a) b
  | p, [], b => by simp [kidsGo, sizes]
  | p, t :: a, b => by simp only [List.cons_append, kidsGo, kidsGo_app (p + t.size) a b, sizes, Nat.add_assoc]

theorem kidsGo_len : ∀ (p : Nat) (a : List Tr), (kidsGo p a).length = a.length
  | _, [] => rfl
  | p, t :: a => by simp only [kidsGo, List.length_cons, kidsGo_len (p + t.size) a]

def kidsR (p : Nat) : Tr → List Int
  | .var => []
  | .app ts => kidsGo (p + 1) ts

end Go.Proofs.YtcijfaijjpkdoaaDoor

/- Where the term at a place ends; endOf walked. -/
namespace Go.Proofs.YtcijfaijjpkdoaaDoor
open Go.RowKit Go.Maps

/-- A part of a row. -/
theorem Is.mid {w : World} {b off cap k m : Nat} {t : List Int} (h : Is w (.slice (some ⟨b, off, none⟩) t.length cap) t) (hk : k < t.length) (hm : k + m ≤ t.length) : Is w (.slice (some ⟨b, off + k, none⟩) m (cap - k)) ((t.drop k).take m) := by
  obtain ⟨ao, cap', e, h1, h2, h3⟩ := h
  simp only [Value.slice.injEq, true_and] at e
  obtain ⟨rfl, rfl⟩ := e
  obtain ⟨g, o, e, hg, hE⟩ := h3 (by omega)
  simp only [Option.some.injEq, Addr.mk.injEq, and_true] at e
  obtain ⟨rfl, rfl⟩ := e
  have hl : ((t.drop k).take m).length = m := by rw [List.length_take, List.length_drop]; omega
  refine ⟨some ⟨b, off + k, none⟩, cap - k, by rw [hl], by omega, by omega, fun _ => ⟨b, off + k, rfl, hg, fun j x hj => ?_⟩⟩
  have hjl := (List.getElem?_eq_some_iff.1 hj).1
  rw [List.getElem?_take_of_lt (by omega), List.getElem?_drop] at hj
  have := hE (k + j) x hj
  rw [show off + k + j * 1 = off + (k + j) * 1 by omega]
  exact this

/-- What is found at a row's head is a right term by itself. -/
theorem first_take {sig : List Sy} : ∀ (r : List Int) (m : Int) (i : Nat) (n : Int), firstT sig m i r = (n, 0) → ∃ k : Nat, n = (i : Int) + k ∧ 1 ≤ k ∧ k ≤ r.length ∧ firstT sig m i (r.take k) = (n, 0)
  | [], m, i, n, h => by simp [firstT] at h
  | c :: r, m, i, n, h => by
    rw [firstT_cons] at h
    cases hc : codeD sig c with
    | none => rw [hc] at h; simp at h
    | some e =>
      rw [hc] at h
      simp only at h
      by_cases h0 : m + e = 0
      · rw [if_pos h0] at h
        refine ⟨1, ?_, Nat.le_refl _, by simp, ?_⟩
        · have := congrArg Prod.fst h
          simp only at this
          omega
        · rw [List.take_succ_cons, List.take_zero, firstT_cons, hc]
          simp only
          rw [if_pos h0]
          exact h
      · rw [if_neg h0] at h
        obtain ⟨k, h1, h2, h3, h4⟩ := first_take r (m + e) (i + 1) n h
        refine ⟨k + 1, by omega, by omega, by simp; omega, ?_⟩
        rw [List.take_succ_cons, firstT_cons, hc]
        simp only
        rw [if_neg h0]
        exact h4

/-- Where the term at a place ends, and what is wrong. -/
def endP (sig : List Sy) (t : List Int) (p : Int) : Int × Int := if p < 0 ∨ (t.length : Int) ≤ p then (0, 33) else (p + (firstT sig 1 0 (t.drop p.toNat)).1, (firstT sig 1 0 (t.drop p.toNat)).2)

theorem endP_ok {sig : List Sy} {t : List Int} {p n : Int} (h : endP sig t p = (n, 0)) : ∃ k m : Nat, p = k ∧ k < t.length ∧ 1 ≤ m ∧ n = ((k + m : Nat) : Int) ∧ k + m ≤ t.length ∧ rowE sig ((t.drop k).take m) = 0 := by
  unfold endP at h
  by_cases hp : p < 0 ∨ (t.length : Int) ≤ p
  · rw [if_pos hp] at h
    simp at h
  · rw [if_neg hp] at h
    obtain ⟨k, rfl⟩ : ∃ k : Nat, p = k := ⟨p.toNat, by omega⟩
    rw [Int.toNat_natCast] at h
    simp only [Prod.mk.injEq] at h
    obtain ⟨m, h1, h2, h3, h4⟩ := first_take (t.drop k) 1 0 (firstT sig 1 0 (t.drop k)).1 (Prod.ext rfl h.2)
    simp only [Int.natCast_zero, Int.zero_add] at h1
    rw [List.length_drop] at h3
    refine ⟨k, m, rfl, by omega, h2, by omega, by omega, ?_⟩
    rw [row_first, h4, List.length_take, List.length_drop]
    simp only [Prod.mk.injEq, and_true]
    rw [h1]
    omega

theorem first_rng {sig : List Sy} : ∀ (r : List Int) (m : Int) (i : Nat), 0 ≤ (firstT sig m i r).1 ∧ (firstT sig m i r).1 ≤ (i : Int) + r.length
  | [], m, i => by simp [firstT]
  | c :: r, m, i => by
    rw [firstT_cons]
    cases hc : codeD sig c with
    | none => simp; omega
    | some e =>
      simp only
      by_cases h0 : m + e = 0
      · rw [if_pos h0]; simp; omega
      · rw [if_neg h0]
        have := first_rng (sig := sig) r (m + e) (i + 1)
        simp only [List.length_cons]
        omega

end Go.Proofs.YtcijfaijjpkdoaaDoor

/- Kids and Sub walked. -/
namespace Go.Proofs.YtcijfaijjpkdoaaDoor
open Go.RowKit Go.Maps

theorem empty_ints (w : World) {base : Nat} (hb : base ≤ w.heap.size) : (w.alloc (.cells #[] 3)).ownsRow base 3 1 (.slice (some ⟨w.heap.size, 0, none⟩) 0 0) 0 [] :=
  ⟨rfl, .inr ⟨w.heap.size, 0, #[], rfl, hb, heap_alloc_new _ _, Nat.le_refl _, by simp [maxLen], by simp, by simp⟩⟩

set_option maxRecDepth 100000 in
set_option maxHeartbeats 800000 in
theorem cloneI_any (v : Value) (t : List Int) (w : World) (h : Is w v t) (h0 : 0 < t.length) (hl : t.length * 8 ≤ 140737488355328) :
    Calls Tryd.prog 60 #[v] w fun e w' => ∃ v', e = .returned v' ∧ OwI w' w.heap.size v' t ∧ Below w.heap.size w w' := by
  have hq : ∀ (W : World) (a : Option Addr) (n c n' c' : Nat), (binOp .eql 23 (.slice a n c) (.slice none n' c')).run Tryd.prog W = .ok (.bool a.isNone) W := fun W a n c n' c' => Lib.run_eql_slice_nil W _ _ a n c n' c' under_ints
  obtain ⟨ao, cap, rfl, hao, hca, q0⟩ := Row.flat h
  obtain ⟨g, off, c0, rfl, _⟩ := h.at h0
  obtain ⟨v', w', hr, ho, hg⟩ := join_ints 23 (w := w.alloc (.cells #[] 3)) (base := w.heap.size) (x := .slice (some ⟨w.heap.size, 0, none⟩) 0 0) (xs := []) ⟨fun k x hk => (by simp at hk), empty_ints w (Nat.le_refl _)⟩ (h.kp (Kp.of_below (below_alloc _))) (below_alloc _).size (by simp; omega)
  rw [List.nil_append] at ho
  have HR := hid hr
  have HO := hid ho
  have HB := hid (grown_below (below_alloc _) hg (Nat.le_refl _))
  clear hr ho hg q0 h
  go_enter Tryd.func60, Tryd.ntmps60
  go_wp2_with (first
    | (at_builtin; refine wpList_append_run rfl _ _ _ rfl _ _ rfl rfl HR.out ?_))
  go_ret
  exact ⟨_, rfl, HO.out, HB.out⟩

/-- What is wrong with a term and a place; the term there; its arguments' places. -/
def placeE (sig : List Sy) (t : List Int) (p : Int) : Int := if termE sig t = 0 then (endP sig t p).2 else termE sig t

def subL (sig : List Sy) (t : List Int) (p : Int) : List Int := if placeE sig t p = 0 then (t.drop p.toNat).take ((endP sig t p).1.toNat - p.toNat) else []

def kidsL (sig : List Sy) (t : List Int) (p : Int) : List Int := match growR sig (subL sig t p) with | [T] => kidsR p.toNat T | _ => []

theorem placeE_ok {sig : List Sy} {t : List Int} {p : Int} (h : placeE sig t p = 0) : ArOk sig ∧ rowE sig t = 0 ∧ ∃ k m : Nat, p = k ∧ k < t.length ∧ 1 ≤ m ∧ endP sig t p = (((k + m : Nat) : Int), 0) ∧ k + m ≤ t.length ∧ subL sig t p = (t.drop k).take m ∧ rowE sig ((t.drop k).take m) = 0 := by
  have h0 := h
  unfold placeE at h
  by_cases ht : termE sig t = 0
  · rw [if_pos ht] at h
    have hsg : sigE sig = 0 := by
      unfold termE at ht
      by_cases hs : sigE sig = 0
      · exact hs
      · rw [if_neg hs] at ht; exact ht
    have hrw : rowE sig t = 0 := by unfold termE at ht; rw [if_pos hsg] at ht; exact ht
    obtain ⟨k, m, h1, h2, h3, h4, h5, h6⟩ := endP_ok (Prod.ext rfl h : endP sig t p = ((endP sig t p).1, 0))
    refine ⟨sigE_ok hsg, hrw, k, m, h1, h2, h3, Prod.ext h4 h, h5, ?_, h6⟩
    unfold subL
    rw [if_pos h0, h4, h1, Int.toNat_natCast, Int.toNat_natCast, show k + m - k = m by omega]
  · rw [if_neg ht] at h
    exact absurd h ht

theorem kidsL_bad {sig : List Sy} {t : List Int} {p : Int} (h : placeE sig t p ≠ 0) : kidsL sig t p = [] := by
  unfold kidsL subL
  rw [if_neg h]
  rfl

theorem subL_bad {sig : List Sy} {t : List Int} {p : Int} (h : placeE sig t p ≠ 0) : subL sig t p = [] := by
  unfold subL
  rw [if_neg h]

end Go.Proofs.YtcijfaijjpkdoaaDoor

/- A term's arguments, one behind the other. -/
namespace Go.Proofs.YtcijfaijjpkdoaaDoor
open Go.RowKit Go.Maps

/-- What stands at the head of a row of terms. -/
theorem first_part {sig : List Sy} (ha : ArOk sig) : ∀ (r : List Int) (d m : Int) (j i : Nat), 1 ≤ d → d ≤ m → firstT sig m i r = ((i : Int) + r.length, 0) →
    ∃ k : Nat, 1 ≤ k ∧ k ≤ r.length ∧ firstT sig d j r = ((j : Int) + k, 0) ∧ (m = d → k = r.length) ∧ (d < m → firstT sig (m - d) (i + k) (r.drop k) = ((i : Int) + r.length, 0))
  | [], d, m, j, i, _, _, h => by simp [firstT] at h
  | c :: r, d, m, j, i, hd, hm, h => by
    rw [firstT_cons] at h ⊢
    cases hc : codeD sig c with
    | none => rw [hc] at h; simp at h
    | some e =>
      have he := codeD_ge ha hc
      rw [hc] at h
      simp only at h ⊢
      by_cases h0 : m + e = 0
      · rw [if_pos h0] at h
        have hl : r.length = 0 := by
          have := congrArg Prod.fst h
          simp at this
          omega
        refine ⟨1, Nat.le_refl _, by simp, by rw [if_pos (by omega)]; simp, fun _ => by simp [hl], fun h1 => by omega⟩
      · rw [if_neg h0] at h
        by_cases h1 : d + e = 0
        · refine ⟨1, Nat.le_refl _, by simp, by rw [if_pos h1]; simp, fun h2 => by omega, fun h2 => ?_⟩
          rw [List.drop_succ_cons, List.drop_zero, show m - d = m + e by omega]
          exact h
        · obtain ⟨k, k1, k2, k3, k4, k5⟩ := first_part ha r (d + e) (m + e) (j + 1) (i + 1) (by omega) (by omega) (by rw [h]; simp only [List.length_cons, Prod.mk.injEq, and_true]; omega)
          refine ⟨k + 1, by omega, by simp; omega, by rw [if_neg h1, k3]; simp only [Prod.mk.injEq, and_true]; omega, fun h2 => by have := k4 (by omega); simp; omega, fun h2 => ?_⟩
          have h3 := k5 (by omega)
          rw [List.drop_succ_cons, show m - d = m + e - (d + e) by omega, show i + (k + 1) = i + 1 + k by omega, h3]
          simp only [List.length_cons, Prod.mk.injEq, and_true]
          omega

/-- A row of m terms is taken apart. -/
theorem split_first {sig : List Sy} (ha : ArOk sig) : ∀ (m : Nat) (r : List Int) (i : Nat), 1 ≤ m → firstT sig m i r = ((i : Int) + r.length, 0) → ∃ us : List (List Int), us.length = m ∧ r = us.flatten ∧ ∀ u ∈ us, rowE sig u = 0
  | 0, _, _, h, _ => absurd h (by omega)
  | m + 1, r, i, _, h => by
    obtain ⟨k, k1, k2, k3, k4, k5⟩ := first_part ha r 1 ((m + 1 : Nat) : Int) 0 i (by omega) (by omega) h
    obtain ⟨k', e1, _, _, e4⟩ := first_take r 1 0 _ k3
    have hkk : k' = k := by omega
    subst hkk
    have hr : rowE sig (r.take k') = 0 := by
      rw [row_first, e4, List.length_take]
      simp only [Prod.mk.injEq, and_true]
      omega
    by_cases hm : m = 0
    · subst hm
      have := k4 (by omega)
      refine ⟨[r], rfl, by simp, fun u hu => ?_⟩
      rw [List.mem_singleton] at hu
      subst hu
      rw [List.take_of_length_le (by omega)] at hr
      exact hr
    · have h5 := k5 (by omega)
      rw [show ((m + 1 : Nat) : Int) - 1 = (m : Int) by omega] at h5
      obtain ⟨us, u1, u2, u3⟩ := split_first ha m (r.drop k') (i + k') (by omega) (by rw [h5, List.length_drop]; simp only [Prod.mk.injEq, and_true]; omega)
      refine ⟨r.take k' :: us, by simp [u1], by rw [List.flatten_cons, ← u2, List.take_append_drop], fun u hu => ?_⟩
      rcases List.mem_cons.1 hu with rfl | hu
      · exact hr
      · exact u3 u hu

/-- What grows of a row behind another one. -/
theorem grow_behind {sig : List Sy} (ha : ArOk sig) (v : List Int) : ∀ (u p : List Int), firstT sig 1 0 (p ++ u) = (((p ++ u).length : Int), 0) → growR sig (u ++ v) = growR sig v ++ growR sig u
  | [], p, _ => by simp [growR]
  | c :: u, p, h => by
    have ih := grow_behind ha v u (p ++ [c]) (by simpa using h)
    show growStep sig (growR sig (u ++ v)) c = growR sig v ++ growStep sig (growR sig u) c
    rw [ih]
    unfold growStep
    by_cases hc : c < 0
    · rw [if_pos hc, if_pos hc, List.append_assoc]
    · rw [if_neg hc, if_neg hc]
      obtain ⟨_, h2⟩ := grow_code ha p c u 1 0 (by omega) (by rw [h]; simp) hc
      rw [List.length_append, show (growR sig v).length + (growR sig u).length - arN sig c = (growR sig v).length + ((growR sig u).length - arN sig c) by omega, List.take_length_add_append, List.drop_length_add_append, List.append_assoc]

/-- The trees of terms one behind the other. -/
theorem grow_flat {sig : List Sy} (ha : ArOk sig) : ∀ us : List (List Int), (∀ u ∈ us, rowE sig u = 0) → (growR sig us.flatten).reverse.map Tr.size = us.map List.length
  | [], _ => by simp [growR]
  | u :: us, h => by
    obtain ⟨T, h1, h2⟩ := grow_one ha (h u (by simp))
    have h3 := grow_behind ha us.flatten u [] (by rw [List.nil_append]; exact row_first.1 (h u (by simp)))
    rw [List.flatten_cons, h3, h1, List.reverse_append, List.map_append, grow_flat ha us (fun x hx => h x (by simp [hx]))]
    simp [h2]

/-- Places by lengths. -/
def places : Nat → List Nat → List Int
  | _, [] => []
  | p, n :: ns => (p : Int) :: places (p + n) ns

theorem kids_places : ∀ (p : Nat) (ts : List Tr), kidsGo p ts = places p (ts.map Tr.size)
  | _, [] => rfl
  | p, t :: ts => by simp only [kidsGo, List.map_cons, places, kids_places (p + t.size) ts]

theorem places_len : ∀ (p : Nat) (ns : List Nat), (places p ns).length = ns.length
  | _, [] => rfl
  | p, n :: ns => by simp only [places, List.length_cons, places_len (p + n) ns]

theorem places_at : ∀ (us : List (List Int)) (p k : Nat), k < us.length → (places p (us.map List.length))[k]? = some ((p + (us.take k).flatten.length : Nat) : Int)
  | [], _, k, h => by simp at h
  | u :: us, p, 0, _ => by simp [places]
  | u :: us, p, k + 1, h => by
    rw [List.map_cons, places, List.getElem?_cons_succ, places_at us (p + u.length) k (by simpa using h), List.take_succ_cons, List.flatten_cons, List.length_append]
    simp only [Option.some.injEq]
    omega

/-- A symbol's arguments. -/
theorem kids_split {sig : List Sy} (ha : ArOk sig) {c : Int} {r : List Int} (h : rowE sig (c :: r) = 0) (hc : ¬ c < 0) :
    ∃ us : List (List Int), r = us.flatten ∧ (∀ u ∈ us, rowE sig u = 0) ∧ ∃ T, growR sig (c :: r) = [T] ∧ kidsR 0 T = places 1 (us.map List.length) := by
  have h1 := row_first.1 h
  rw [firstT_cons] at h1
  cases hd : codeD sig c with
  | none => rw [hd] at h1; simp at h1
  | some e =>
    rw [hd] at h1
    simp only at h1
    obtain ⟨k1, _⟩ := codeD_ar ha hd hc
    obtain ⟨us, u1, u2, u3⟩ : ∃ us : List (List Int), us.length = arN sig c ∧ r = us.flatten ∧ ∀ u ∈ us, rowE sig u = 0 := by
      by_cases h0 : 1 + e = 0
      · rw [if_pos h0] at h1
        have hl : r.length = 0 := by
          have := congrArg Prod.fst h1
          simp at this
          omega
        exact ⟨[], by simp; omega, by rw [List.eq_nil_of_length_eq_zero hl]; rfl, fun u hu => by cases hu⟩
      · rw [if_neg h0, show (1 : Int) + e = (arN sig c : Int) by omega] at h1
        exact split_first ha _ r (0 + 1) (by omega) (by rw [h1]; simp only [List.length_cons, Prod.mk.injEq, and_true]; omega)
    have hg := grow_flat ha us u3
    have hl : (growR sig r).length = arN sig c := by
      have := congrArg List.length hg
      rw [List.length_map, List.length_map, List.length_reverse, ← u2] at this
      omega
    refine ⟨us, u2, u3, .app (growR sig r).reverse, ?_, ?_⟩
    · show growStep sig (growR sig r) c = _
      unfold growStep
      rw [if_neg hc, hl, Nat.sub_self, List.take_zero, List.drop_zero, List.nil_append]
    · rw [kidsR, kids_places, u2, hg]

theorem term_parts {sig : List Sy} {t : List Int} (h : termE sig t = 0) : sigE sig = 0 ∧ rowE sig t = 0 := by
  unfold termE at h
  by_cases hs : sigE sig = 0
  · rw [if_pos hs] at h; exact ⟨hs, h⟩
  · rw [if_neg hs] at h; exact absurd h hs

/-- The term that stands at a place. -/
theorem sub_at {sig : List Sy} {t p u q : List Int} (ht : termE sig t = 0) (hu : rowE sig u = 0) (he : t = p ++ (u ++ q)) : placeE sig t p.length = 0 ∧ subL sig t p.length = u := by
  have ha := sigE_ok (term_parts ht).1
  have h1 := first_app ha u 1 0 (by omega) (by rw [row_first.1 hu]; simp) 1 0 q (by omega)
  rw [if_pos rfl] at h1
  have hul : 0 < u.length := by
    cases u with
    | nil => simp [rowE, firstT] at hu
    | cons c u => simp
  have h2 : endP sig t p.length = (((p.length + u.length : Nat) : Int), 0) := by
    unfold endP
    rw [if_neg (by rw [he, List.length_append, List.length_append]; omega), Int.toNat_natCast, he, List.drop_left, h1]
    simp only [Prod.mk.injEq, and_true]
    omega
  have h3 : placeE sig t p.length = 0 := by unfold placeE; rw [if_pos ht, h2]
  refine ⟨h3, ?_⟩
  unfold subL
  rw [if_pos h3, h2, Int.toNat_natCast, Int.toNat_natCast, show p.length + u.length - p.length = u.length by omega, he, List.drop_left, List.take_left]

/-- The arguments of a right term's root. -/
theorem root_kids {sig : List Sy} {c : Int} {r : List Int} (ht : termE sig (c :: r) = 0) (hc : ¬ c < 0) :
    placeE sig (c :: r) 0 = 0 ∧ ∃ us : List (List Int), r = us.flatten ∧ (∀ u ∈ us, rowE sig u = 0) ∧ kidsL sig (c :: r) 0 = places 1 (us.map List.length) := by
  obtain ⟨hs, hr⟩ := term_parts ht
  obtain ⟨h1, h2⟩ := sub_at (p := []) (q := []) ht hr (by simp)
  obtain ⟨us, u1, u2, T, u3, u4⟩ := kids_split (sigE_ok hs) hr hc
  refine ⟨h1, us, u1, u2, ?_⟩
  have h3 : subL sig (c :: r) 0 = c :: r := h2
  unfold kidsL
  rw [h3, u3]
  exact u4

/-- Where a substitution meets none of the variables, nothing is done. -/
theorem laid_unmet (f : Int → Option (List Int)) (t : List Int) (h : ∀ c ∈ t, c < 0 → f (-1 - c) = none) : laidL f t = t := by
  unfold laidL
  induction t with
  | nil => rfl
  | cons c t ih =>
    rw [List.flatMap_cons, ih (fun x hx => h x (by simp [hx]))]
    have : piece f c = [c] := by
      unfold piece
      by_cases hc : c < 0
      · simp [hc, h c (by simp) hc]
      · simp [hc]
    rw [this]
    rfl

end Go.Proofs.YtcijfaijjpkdoaaDoor

/- The places of a term, plainly: what is above a place, where the arguments stand. -/
namespace Go.Proofs.YtcijfaijjpkdoaaDoor
open Go.RowKit Go.Maps

mutual
/-- The places above a place, of a tree that stands at a place. -/
def abv : Tr → Nat → Nat → List Int
  | .var, _, _ => []
  | .app ts, p, q => if p = q then [] else (p : Int) :: abvs ts (p + 1) q
def abvs : List Tr → Nat → Nat → List Int
  | [], _, _ => []
  | t :: ts, p, q => if p + t.size ≤ q then abvs ts (p + t.size) q else abv t p q
end

/-- How many nodes the term at a place has. -/
def nodes (sig : List Sy) (t : List Int) (i : Nat) : Nat := (firstT sig 1 0 (t.drop i)).1.toNat

/-- The places above a place. -/
def abD (sig : List Sy) (t : List Int) (q : Nat) : List Nat := (List.range q).filter fun i => decide (q < i + nodes sig t i)

theorem first_more {sig : List Sy} (q : List Int) : ∀ (r : List Int) (m : Int) (i : Nat) (n : Int), firstT sig m i r = (n, 0) → firstT sig m i (r ++ q) = (n, 0)
  | [], m, i, n, h => by simp [firstT] at h
  | c :: r, m, i, n, h => by
    rw [List.cons_append, firstT_cons]
    rw [firstT_cons] at h
    cases hc : codeD sig c with
    | none => rw [hc] at h; simp at h
    | some e =>
      rw [hc] at h
      simp only at h ⊢
      by_cases h0 : m + e = 0
      · rw [if_pos h0] at h ⊢; exact h
      · rw [if_neg h0] at h ⊢; exact first_more q r (m + e) (i + 1) n h

theorem first_at {sig : List Sy} (ha : ArOk sig) : ∀ (v : List Int) (m : Int) (j i : Nat), 1 ≤ m → firstT sig m j v = ((j : Int) + v.length, 0) → i < v.length → ∃ m' : Int, 1 ≤ m' ∧ firstT sig m' (j + i) (v.drop i) = ((j : Int) + v.length, 0)
  | v, m, j, 0, hm, h, _ => ⟨m, hm, h⟩
  | [], m, j, i + 1, _, _, hi => by simp at hi
  | c :: v, m, j, i + 1, hm, h, hi => by
    rw [firstT_cons] at h
    cases hc : codeD sig c with
    | none => rw [hc] at h; simp at h
    | some e =>
      have he := codeD_ge ha hc
      rw [hc] at h
      simp only at h
      by_cases h0 : m + e = 0
      · rw [if_pos h0] at h
        have := congrArg Prod.fst h
        simp only [List.length_cons] at this hi
        omega
      · rw [if_neg h0] at h
        obtain ⟨m', h1, h2⟩ := first_at ha v (m + e) (j + 1) i (by omega) (by rw [h]; simp only [List.length_cons, Prod.mk.injEq, and_true]; omega) (by simpa using hi)
        refine ⟨m', h1, ?_⟩
        rw [List.drop_succ_cons, show j + (i + 1) = j + 1 + i by omega, h2]
        simp only [List.length_cons, Prod.mk.injEq, and_true]
        omega

/-- The term at a place of a right term. -/
theorem at_place {sig : List Sy} (ha : ArOk sig) {v : List Int} (h : rowE sig v = 0) {i : Nat} (hi : i < v.length) :
    1 ≤ nodes sig v i ∧ i + nodes sig v i ≤ v.length ∧ firstT sig 1 0 (v.drop i) = ((nodes sig v i : Int), 0) ∧ rowE sig ((v.drop i).take (nodes sig v i)) = 0 := by
  obtain ⟨m', h1, h2⟩ := first_at ha v 1 0 i (by omega) (by rw [row_first.1 h]; simp) hi
  obtain ⟨k, k1, k2, k3, _, _⟩ := first_part ha (v.drop i) 1 m' 0 (0 + i) (by omega) h1 (by rw [h2, List.length_drop]; simp only [Prod.mk.injEq, and_true]; omega)
  have hn : nodes sig v i = k := by unfold nodes; rw [k3]; simp
  rw [hn]
  rw [List.length_drop] at k2
  have k3' : firstT sig 1 0 (v.drop i) = ((k : Int), 0) := by rw [k3]; simp
  refine ⟨k1, by omega, k3', ?_⟩
  obtain ⟨k', e1, _, _, e4⟩ := first_take (v.drop i) 1 0 _ k3'
  have : k' = k := by omega
  subst this
  rw [row_first, e4, List.length_take, List.length_drop]
  simp only [Prod.mk.injEq, and_true]
  omega

theorem nodes_app {sig : List Sy} (ha : ArOk sig) {v : List Int} (h : rowE sig v = 0) {i : Nat} (hi : i < v.length) (q : List Int) : nodes sig (v ++ q) i = nodes sig v i := by
  obtain ⟨_, _, h3, _⟩ := at_place ha h hi
  have h4 := first_more q _ _ _ _ h3
  rw [← List.drop_append_of_le_length (by omega)] at h4
  have h5 : nodes sig (v ++ q) i = ((nodes sig v i : Int)).toNat := by
    show (firstT sig 1 0 ((v ++ q).drop i)).1.toNat = _
    rw [h4]
  rw [h5, Int.toNat_natCast]

theorem nodes_behind {sig : List Sy} (v q : List Int) (i : Nat) : nodes sig (v ++ q) (v.length + i) = nodes sig q i := by
  unfold nodes
  rw [List.drop_length_add_append]

theorem nodes_drop {sig : List Sy} (t : List Int) (j i : Nat) : nodes sig (t.drop j) i = nodes sig t (j + i) := by
  unfold nodes
  rw [List.drop_drop]

theorem nodes_root {sig : List Sy} {v : List Int} (h : rowE sig v = 0) : nodes sig v 0 = v.length := by
  unfold nodes
  rw [List.drop_zero, row_first.1 h]
  simp

/-- Terms lie in one another, or apart. -/
theorem lam {sig : List Sy} (ha : ArOk sig) {t : List Int} (h : rowE sig t = 0) {i j : Nat} (hj : j < t.length) (h1 : j ≤ i) (h2 : i < j + nodes sig t j) : i + nodes sig t i ≤ j + nodes sig t j := by
  obtain ⟨_, k2, k3, k4⟩ := at_place ha h hj
  have hl : ((t.drop j).take (nodes sig t j)).length = nodes sig t j := by rw [List.length_take, List.length_drop]; omega
  have h3 := at_place ha k4 (i := i - j) (by rw [hl]; omega)
  have h4 := nodes_app ha k4 (i := i - j) (by rw [hl]; omega) ((t.drop j).drop (nodes sig t j))
  rw [List.take_append_drop, nodes_drop, show j + (i - j) = i by omega] at h4
  rw [← h4, hl] at h3
  omega

theorem grow_map {sig : List Sy} (ha : ArOk sig) : ∀ us : List (List Int), (∀ u ∈ us, rowE sig u = 0) → (growR sig us.flatten).reverse = us.flatMap (growR sig)
  | [], _ => by simp [growR]
  | u :: us, h => by
    obtain ⟨T, h1, _⟩ := grow_one ha (h u (by simp))
    have h3 := grow_behind ha us.flatten u [] (by rw [List.nil_append]; exact row_first.1 (h u (by simp)))
    rw [List.flatten_cons, h3, h1, List.reverse_append, grow_map ha us (fun x hx => h x (by simp [hx])), List.flatMap_cons, h1]
    rfl

/-- A symbol's arguments, as a tree. -/
theorem kids_tree {sig : List Sy} (ha : ArOk sig) {c : Int} {r : List Int} (h : rowE sig (c :: r) = 0) (hc : ¬ c < 0) :
    ∃ us : List (List Int), us.length = arN sig c ∧ r = us.flatten ∧ (∀ u ∈ us, rowE sig u = 0) ∧ growR sig (c :: r) = [.app (us.flatMap (growR sig))] := by
  have h1 := row_first.1 h
  rw [firstT_cons] at h1
  cases hd : codeD sig c with
  | none => rw [hd] at h1; simp at h1
  | some e =>
    rw [hd] at h1
    simp only at h1
    obtain ⟨k1, _⟩ := codeD_ar ha hd hc
    obtain ⟨us, u1, u2, u3⟩ : ∃ us : List (List Int), us.length = arN sig c ∧ r = us.flatten ∧ ∀ u ∈ us, rowE sig u = 0 := by
      by_cases h0 : 1 + e = 0
      · rw [if_pos h0] at h1
        have hl : r.length = 0 := by
          have := congrArg Prod.fst h1
          simp at this
          omega
        exact ⟨[], by simp; omega, by rw [List.eq_nil_of_length_eq_zero hl]; rfl, fun u hu => by cases hu⟩
      · rw [if_neg h0, show (1 : Int) + e = (arN sig c : Int) by omega] at h1
        exact split_first ha _ r (0 + 1) (by omega) (by rw [h1]; simp only [List.length_cons, Prod.mk.injEq, and_true]; omega)
    have hl : (growR sig r).length = arN sig c := by
      have := congrArg List.length (grow_flat ha us u3)
      rw [List.length_map, List.length_map, List.length_reverse, ← u2] at this
      omega
    refine ⟨us, u1, u2, u3, ?_⟩
    show growStep sig (growR sig r) c = _
    unfold growStep
    rw [if_neg hc, hl, Nat.sub_self, List.take_zero, List.drop_zero, List.nil_append, u2, grow_map ha us u3]

theorem abD_far {sig : List Sy} (ha : ArOk sig) {v : List Int} (h : rowE sig v = 0) (r : List Int) {q : Nat} (hq : v.length ≤ q) : abD sig (v ++ r) q = (abD sig r (q - v.length)).map (v.length + ·) := by
  obtain ⟨d, rfl⟩ : ∃ d, q = v.length + d := ⟨q - v.length, by omega⟩
  rw [Nat.add_sub_cancel_left]
  unfold abD
  rw [List.range_add, List.filter_append, List.filter_map]
  have h1 : (List.range v.length).filter (fun i => decide (v.length + d < i + nodes sig (v ++ r) i)) = [] := by
    rw [List.filter_eq_nil_iff]
    intro i hi
    have hi := List.mem_range.1 hi
    have h2 := at_place ha h hi
    rw [nodes_app ha h hi]
    simp
    omega
  rw [h1, List.nil_append]
  congr 1
  refine List.filter_congr fun i _ => ?_
  simp only [Function.comp]
  rw [nodes_behind]
  simp
  omega

theorem abD_in {sig : List Sy} (ha : ArOk sig) {v : List Int} (h : rowE sig v = 0) (r : List Int) {q : Nat} (hq : q < v.length) : abD sig (v ++ r) q = abD sig v q := by
  unfold abD
  refine List.filter_congr fun i hi => ?_
  rw [nodes_app ha h (by have := List.mem_range.1 hi; omega)]

theorem abD_cons {sig : List Sy} {c : Int} {r : List Int} (h : rowE sig (c :: r) = 0) {q : Nat} (hq : q < r.length) : abD sig (c :: r) (q + 1) = 0 :: (abD sig r q).map (1 + ·) := by
  unfold abD
  rw [Nat.add_comm q 1, List.range_add, List.filter_append, List.filter_map]
  have h1 : (List.range 1).filter (fun i => decide (1 + q < i + nodes sig (c :: r) i)) = [0] := by
    have : List.range 1 = [0] := rfl
    rw [this, List.filter_cons_of_pos (by rw [nodes_root h]; simp; omega)]
    rfl
  rw [h1, List.singleton_append]
  congr 2
  refine List.filter_congr fun i _ => ?_
  simp only [Function.comp]
  have := nodes_behind (sig := sig) [c] r i
  simp only [List.singleton_append, List.length_singleton] at this
  rw [this]
  simp
  omega

/-- What is found above a place by going down the tree. -/
theorem abv_eq {sig : List Sy} (ha : ArOk sig) : ∀ (N : Nat) (u : List Int), u.length ≤ N → rowE sig u = 0 → ∀ (T : Tr) (p q : Nat), growR sig u = [T] → q < u.length → abv T p (p + q) = (abD sig u q).map (fun i => ((p + i : Nat) : Int))
  | 0, u, hN, h, T, p, q, _, hq => by omega
  | N + 1, [], hN, h, T, p, q, _, hq => by simp at hq
  | N + 1, c :: r, hN, h, T, p, q, hT, hq => by
    by_cases hc : c < 0
    · have h1 := row_first.1 h
      have hr : r = [] := by
        rw [firstT_cons] at h1
        cases hd : codeD sig c with
        | none => rw [hd] at h1; simp at h1
        | some e =>
          rw [hd] at h1
          unfold codeD at hd
          split at hd
          · cases hd
          · cases hd
            simp at h1
            exact List.eq_nil_of_length_eq_zero (by omega)
      subst hr
      obtain rfl : q = 0 := by simp at hq; omega
      have : T = .var := by
        have h2 : growStep sig [] c = [T] := hT
        unfold growStep at h2
        rw [if_pos hc] at h2
        simp at h2
        exact h2.symm
      subst this
      simp [abv, abD]
    · obtain ⟨us, _, hr, hus, hg⟩ := kids_tree ha h hc
      rw [hg] at hT
      simp only [List.cons.injEq, and_true] at hT
      subst hT
      have hlen : ∀ u ∈ us, u.length ≤ N := fun u hu => by
        have h1 : u.length ≤ us.flatten.length := List.Sublist.length_le (List.sublist_flatten_of_mem hu)
        rw [← hr] at h1
        simp at hN
        omega
      -- the arguments, one behind the other
      have key : ∀ (vs : List (List Int)), (∀ u ∈ vs, rowE sig u = 0) → (∀ u ∈ vs, u.length ≤ N) → ∀ p q : Nat, q < vs.flatten.length → abvs (vs.flatMap (growR sig)) p (p + q) = (abD sig vs.flatten q).map (fun i => ((p + i : Nat) : Int)) := by
        intro vs
        induction vs with
        | nil => intro _ _ p q hq; simp at hq
        | cons v vs ih =>
          intro hv hl p q hq
          obtain ⟨T, h1, h2⟩ := grow_one ha (hv v (by simp))
          rw [List.flatMap_cons, h1, List.flatten_cons]
          show abvs (T :: vs.flatMap (growR sig)) p (p + q) = _
          unfold abvs
          rw [h2]
          by_cases hqv : v.length ≤ q
          · rw [if_pos (by omega), abD_far ha (hv v (by simp)) _ hqv, show p + q = p + v.length + (q - v.length) by omega,
              ih (fun u hu => hv u (by simp [hu])) (fun u hu => hl u (by simp [hu])) (p + v.length) (q - v.length) (by rw [List.flatten_cons, List.length_append] at hq; omega), List.map_map]
            refine List.map_congr_left fun i _ => ?_
            simp only [Function.comp]
            rw [Nat.add_assoc]
          · rw [if_neg (by omega), abD_in ha (hv v (by simp)) _ (by omega)]
            exact abv_eq ha N v (hl v (by simp)) (hv v (by simp)) T p q h1 (by omega)
      unfold abv
      cases q with
      | zero => simp [abD]
      | succ q =>
        have hq2 : q < us.flatten.length := by rw [← hr]; simpa using hq
        rw [if_neg (by omega), abD_cons h (by simpa using hq), show p + (q + 1) = p + 1 + q by omega, key us hus hlen (p + 1) q hq2, hr, List.map_cons, List.map_map]
        congr 1
        refine List.map_congr_left fun i _ => ?_
        simp only [Function.comp]
        rw [Nat.add_assoc]

/-- The arguments' places, found one by one. -/
def kidsD (sig : List Sy) (t : List Int) : Nat → Nat → List Int
  | 0, _ => []
  | n + 1, k => (k : Int) :: kidsD sig t n (k + nodes sig t k)

theorem kidsD_places {sig : List Sy} (t : List Int) : ∀ (us : List (List Int)) (k : Nat) (q : List Int), (∀ u ∈ us, rowE sig u = 0) → t.drop k = us.flatten ++ q → kidsD sig t us.length k = places k (us.map List.length)
  | [], _, _, _, _ => rfl
  | u :: us, k, q, h, ht => by
    have h0 := h u (by simp)
    have h1 : nodes sig t k = u.length := by
      unfold nodes
      rw [ht, List.flatten_cons, List.append_assoc, first_more _ u 1 0 (u.length : Int) (by rw [row_first.1 h0])]
      simp
    show (k : Int) :: kidsD sig t us.length (k + nodes sig t k) = (k : Int) :: places (k + u.length) (us.map List.length)
    rw [h1, kidsD_places t us (k + u.length) q (fun x hx => h x (by simp [hx]))]
    rw [← List.drop_drop, ht, List.flatten_cons, List.append_assoc, List.drop_left]

/-- Kids, found one by one. -/
theorem kids_eq {sig : List Sy} {t : List Int} {k : Nat} {c : Int} (h : placeE sig t k = 0) (hc : t[k]? = some c) : kidsL sig t k = if c < 0 then [] else kidsD sig t (arN sig c) (k + 1) := by
  obtain ⟨ha, hr, k', m, hk, hkl, hm1, hend, hkm, hsub, hrow⟩ := placeE_ok h
  obtain rfl : k = k' := by omega
  have hd := drop_get hc
  obtain ⟨m', rfl⟩ : ∃ m', m = m' + 1 := ⟨m - 1, by omega⟩
  rw [hd, List.take_succ_cons] at hsub hrow
  unfold kidsL
  rw [hsub, Int.toNat_natCast]
  by_cases h0 : c < 0
  · rw [if_pos h0]
    obtain ⟨T, hT, _⟩ := grow_one ha hrow
    rw [hT]
    have hT2 : growStep sig (growR sig ((t.drop (k + 1)).take m')) c = [T] := hT
    unfold growStep at hT2
    rw [if_pos h0] at hT2
    have h2 := congrArg List.length hT2
    rw [List.length_append] at h2
    simp only [List.length_cons, List.length_nil] at h2
    have h3 : growR sig ((t.drop (k + 1)).take m') = [] := List.eq_nil_of_length_eq_zero (by omega)
    rw [h3] at hT2
    simp only [List.nil_append, List.cons.injEq, and_true] at hT2
    subst hT2
    rfl
  · rw [if_neg h0]
    obtain ⟨us, u1, u2, u3, u4⟩ := kids_tree ha hrow h0
    rw [u4]
    show kidsGo (k + 1) (us.flatMap (growR sig)) = _
    rw [kids_places, ← grow_map ha us u3, grow_flat ha us u3, ← u1]
    refine (kidsD_places t us (k + 1) ((t.drop (k + 1)).drop m') u3 ?_).symm
    rw [← u2, List.take_append_drop]

end Go.Proofs.YtcijfaijjpkdoaaDoor

/- What the law file's helpers do: same, lent, kept, spoil, three, which. -/
namespace Go.Proofs.YtcijfaijjpkdoaaDoor
open Go.RowKit Go.Maps Go.BigFrame

theorem join_two (ty : TypeId) {w : World} {base : Nat} {x u : Value} {xs es : List Int} (ho : OwI w base x xs) (hs : Is w u es) (hb : base ≤ w.heap.size) (hl : (xs.length + es.length) * 8 ≤ 140737488355328) :
    ∃ v' w', (Builtin.append_ #[23, 23] ty #[x, u]).run Tryd.prog w = .ok v' w' ∧ OwI w' base v' (xs ++ es) ∧ w.grownBy w' x.ownBlock ∧ (v'.ownBlock = x.ownBlock ∨ v'.ownBlock = some w.heap.size) := by
  obtain ⟨i0, hi, hz0, hz1, hz2⟩ := info_parts info_int
  have hZ : ZI es := fun k x hk => by
    obtain ⟨ao, cap, rfl, _, _, hx⟩ := Row.flat hs
    obtain ⟨_, _, y, _, hy, h1, h2, _⟩ := hx k (List.getElem?_eq_some_iff.1 hk).1
    rw [hk] at hy
    cases hy
    exact ⟨h1, h2⟩
  have hZ2 : ZI (xs ++ es) := fun k y hk => by
    by_cases hkl : k < xs.length
    · rw [List.getElem?_append_left hkl] at hk
      exact ho.1 k y hk
    · rw [List.getElem?_append_right (by omega)] at hk
      exact hZ _ y hk
  obtain ⟨ao, cap, rfl, hc, hm, hx⟩ := hs
  by_cases h0 : es.length = 0
  · obtain rfl : es = [] := List.eq_nil_of_length_eq_zero h0
    obtain ⟨bo, bc, rfl, hbc, _⟩ := ho.shape
    refine ⟨_, w, run_append_nothing w 23 23 ty 3 i0 under_ints hi _ xs.length bc hbc _ ?_, by rw [List.append_nil]; exact ho, World.grownBy.refl _ _, .inl rfl⟩
    cases ao with
    | none => exact Src.ofNil w under_ints _
    | some a => exact Src.ofSlice w under_ints a 0 _ [] (by simp) (fun j u hj => (by simp at hj)) (fun u hu => (by simp at hu))
  · obtain ⟨g', off, rfl, hg, hcell⟩ := hx (by omega)
    obtain ⟨v', w', hr, h2, h3, _, h5⟩ := run_append_own_at (P := Tryd.prog) w base 23 ty 3 i0 _ 1 8 under_ints hi hz0 hz1 hz2 rfl (by decide) _ xs.length (xs.map I64) ho.2 ⟨g', off, none⟩ es.length cap (es.map I64) (by simp) (fun j u hj => by
      rw [List.getElem?_map] at hj
      cases hk : es[j]? with
      | none => rw [hk] at hj; simp at hj
      | some x =>
        rw [hk] at hj
        simp at hj
        subst hj
        rw [Addr.add_lit]
        have := (hcell j x hk).2.2
        rw [Nat.mul_one] at this
        exact this) (fun u hu => by obtain ⟨x, _, rfl⟩ := List.mem_map.1 hu; rfl) (by unfold maxLen; omega) (by omega) hb
    refine ⟨v', w', hr, ⟨hZ2, ?_⟩, h3, h5⟩
    rw [List.length_append, List.map_append]
    exact h2

theorem I64_one (xs : List Int) : ∀ u ∈ xs.map I64, u.oneCell' = true := fun u hu => by obtain ⟨x, _, rfl⟩ := List.mem_map.1 hu; rfl

theorem run_copy_ints {w : World} {base g n cap cap' : Nat} {ao : Option Addr} {zs xs : List Int} (ho : OwI w base (.slice (some ⟨g, 0, none⟩) n cap) zs) (hn : n = zs.length)
    (hs : Is w (.slice ao xs.length cap') xs) (hle : xs.length ≤ n) :
    ∃ w', (Builtin.copy_ #[23, 23] 3 #[.slice (some ⟨g, 0, none⟩) n cap, .slice ao xs.length cap']).run Tryd.prog w = .ok (goInt xs.length) w' ∧
      OwI w' base (.slice (some ⟨g, 0, none⟩) n cap) (xs ++ zs.drop xs.length) ∧ w.grownBy w' (some g) := by
  subst hn
  have hsz : (Tryd.prog.info? 3).map (·.size) = some 1 := by kernel_rfl
  by_cases h0 : xs.length = 0
  · obtain rfl : xs = [] := List.eq_nil_of_length_eq_zero h0
    have := run_copy_none (P := Tryd.prog) w 23 23 3 3 (some ⟨g, 0, none⟩) ao zs.length cap 0 cap' under_ints hsz (by simp)
    exact ⟨w, this, by simpa using ho, World.grownBy.refl _ _⟩
  · have hZ := hs.range
    obtain ⟨ao', c', hv, hc, hm, hx⟩ := hs
    simp only [Value.slice.injEq] at hv
    obtain ⟨rfl, _, rfl⟩ := hv
    obtain ⟨g', off, rfl, hg, hx⟩ := hx (by omega)
    rcases ho.2.2 with ⟨hv, _⟩ | ⟨g2, cap2, cur, hv, hb, hg2, hc2, hm2, hs2, ht2⟩
    · simp at hv
    · simp only [Value.slice.injEq, Option.some.injEq, Addr.mk.injEq, and_true, true_and] at hv
      obtain ⟨rfl, rfl⟩ := hv
      have hmin : xs.length = Nat.min xs.length zs.length := (Nat.min_eq_left hle).symm
      have hcur : zs.length ≤ cur.size := by omega
      have := run_copy_row (P := Tryd.prog) w 23 23 3 3 g 0 zs.length cap ⟨g', off, none⟩ xs.length cap' cur 3 (xs.map I64) under_ints hsz hg2
        (by simpa using hmin) (by
          intro j v hj
          simp only [List.getElem?_map, Option.map_eq_some_iff] at hj
          obtain ⟨x, hx1, rfl⟩ := hj
          rw [Addr.add_lit]
          have := (hx j x hx1).2.2
          rw [Nat.mul_one] at this
          exact this) (by simp; omega) (I64_one xs)
      refine ⟨_, by simpa using this, ⟨?_, ?_, .inr ⟨g, cap, _, by rw [List.length_append, List.length_drop, show xs.length + (zs.length - xs.length) = zs.length by omega], hb, setRow_heap w g cur _ 3 _ hg2, ?_, hm2, ?_, ?_⟩⟩, ?_⟩
      · intro k y hk
        by_cases hkl : k < xs.length
        · rw [List.getElem?_append_left hkl] at hk
          exact hZ k y hk
        · rw [List.getElem?_append_right (by omega), List.getElem?_drop] at hk
          exact ho.1 _ y hk
      · simp
      · simp; omega
      · simp; omega
      · have hl : (xs.map I64).length = xs.length := by simp
        rw [List.length_append, List.length_drop, show xs.length + (zs.length - xs.length) = zs.length by omega]
        simp only [List.map_append, List.map_drop, ← ht2, List.drop_take, Nat.mul_one]
        rw [List.take_append, hl, List.take_of_length_le (by simp; omega)]
      · exact ⟨rfl, rfl, rfl, by simp [World.setRow], fun k _ hk => setRow_other w g k _ (fun e => hk (by simp [e]))⟩

/-- A row and three marks behind it. -/
def marked (xs : List Int) : List Int := xs ++ [77, 77, 77]

theorem mark_step (xs R : List Int) (k : Nat) : (xs ++ List.replicate k 77) ++ 77 :: R = (xs ++ List.replicate (k + 1) 77) ++ R := by
  rw [List.replicate_succ']; simp

theorem get_midI {α : Type} {L : List α} {x : α} {R : List α} {k : Nat} (hk : L.length = k) : (L ++ x :: R)[k]? = some x := by subst hk; simp

theorem marked_lo {xs : List Int} {k : Nat} {x : Int} (h : xs[k]? = some x) : (marked xs)[k]? = some x := by
  have hk := (List.getElem?_eq_some_iff.1 h).1
  unfold marked
  rw [List.getElem?_append_left hk, h]

theorem marked_hi {xs : List Int} {k : Nat} (h1 : ¬ k < xs.length) (h2 : k < xs.length + 3) : (marked xs)[k]? = some 77 := by
  unfold marked
  rw [List.getElem?_append_right (by omega)]
  obtain ⟨j, rfl⟩ : ∃ j, k = xs.length + j := ⟨k - xs.length, by omega⟩
  rw [Nat.add_sub_cancel_left]
  match j, (by omega : j < 3) with
  | 0, _ => rfl
  | 1, _ => rfl
  | 2, _ => rfl

theorem cutI {w : World} {base g n cap : Nat} {xs ys : List Int} (h : OwI w base (.slice (some ⟨g, 0, none⟩) n cap) (xs ++ ys)) : Is w (.slice (some ⟨g, 0, none⟩) xs.length cap) xs := by
  obtain ⟨ao, cp, hv, hc, hm, hx⟩ := h.is
  simp only [Value.slice.injEq] at hv
  obtain ⟨rfl, _, rfl⟩ := hv
  rw [List.length_append] at hc
  refine ⟨_, cap, rfl, by omega, hm, fun h0 => ?_⟩
  obtain ⟨g', off, e, hg, hcell⟩ := hx (by rw [List.length_append]; omega)
  simp only [Option.some.injEq, Addr.mk.injEq, and_true] at e
  obtain ⟨rfl, rfl⟩ := e
  exact ⟨g, 0, rfl, hg, fun k x hk => hcell k x (by rw [List.getElem?_append_left (List.getElem?_eq_some_iff.1 hk).1]; exact hk)⟩

theorem grown_stepT {a b c : World} {r r' : Option Nat} (h : a.grownBy b r) (h' : b.grownBy c r') (hr : ∀ g, r' = some g → r = some g ∨ a.heap.size ≤ g) : a.grownBy c r :=
  ⟨h'.os.trans h.os, h'.tape.trans h.tape, h'.output.trans h.output, Nat.le_trans h.size h'.size, fun k hk hne => (h'.block k (Nat.lt_of_lt_of_le hk h.size) (fun e => by
    rcases hr k e.symm with h1 | h1
    · exact hne h1.symm
    · omega)).trans (h.block k hk hne)⟩

/-- Which of n places. -/
def whichN (c : Int) (n : Nat) : Nat := ((if c < 0 then -(c + 1) else c) % (n : Int)).toNat

theorem which_lt (c : Int) (n : Nat) (hn : 0 < n) : whichN c n < n := by
  unfold whichN
  have h1 := Int.emod_nonneg (if c < 0 then -(c + 1) else c) (b := (n : Int)) (by omega)
  have h2 := Int.emod_lt_of_pos (if c < 0 then -(c + 1) else c) (b := (n : Int)) (by omega)
  omega

end Go.Proofs.YtcijfaijjpkdoaaDoor

/- Rows of trees of package match: cloned, turned round. -/
namespace Go.Proofs.YtcijfaijjpkdoaaDoor
open Go.RowKit Go.Maps

theorem info_treeM : (Tryd.prog.info? 55).map (fun i => (i.zero, i.size, i.bytes)) = some (some .nilIface, 1, 16) := by kernel_rfl
theorem under_treesM : Tryd.prog.underlying 87 = some (.slice 55) := by kernel_rfl

set_option maxRecDepth 100000 in
set_option maxHeartbeats 800000 in
theorem cloneM_any (v : Value) (vals : List Value) (w : World) (h : RdV w v vals) (h1 : ∀ u ∈ vals, u.oneCell' = true) (hl : vals.length * 16 ≤ 140737488355328) :
    Calls Tryd.prog 56 #[v] w fun e w' => ∃ v', e = .returned v' ∧ w'.ownsRow w.heap.size 55 1 v' vals.length vals ∧ Below w.heap.size w w' := by
  obtain ⟨i0, hi, hz0, hz1, hz2⟩ := info_parts info_treeM
  have hq : ∀ (W : World) (a : Option Addr) (n c n' c' : Nat), (binOp .eql 87 (.slice a n c) (.slice none n' c')).run Tryd.prog W = .ok (.bool a.isNone) W := fun W a n c n' c' => Lib.run_eql_slice_nil W _ _ a n c n' c' under_treesM
  rcases h with ⟨rfl, rfl⟩ | ⟨g, off, cap, rfl, hc⟩
  · go_enter Tryd.func56, Tryd.ntmps56
    go_wp2
    go_ret
    exact ⟨_, rfl, World.ownsRow_nil _ _ _ _, Below.refl _ _⟩
  · obtain ⟨v', w', hr, ho, hb⟩ : ∃ v' w', (Builtin.append_ #[87, 87] 87 #[.slice (some ⟨w.heap.size, 0, none⟩) 0 0, .slice (some ⟨g, off, none⟩) vals.length cap]).run Tryd.prog (w.alloc (.cells #[] 55)) = .ok v' w' ∧ w'.ownsRow w.heap.size 55 1 v' vals.length vals ∧ Below w.heap.size w w' := by
      by_cases h0 : vals.length = 0
      · obtain rfl : vals = [] := List.eq_nil_of_length_eq_zero h0
        exact ⟨_, _, run_append_nothing _ 87 87 87 55 i0 under_treesM hi _ 0 0 (Nat.le_refl _) _ (Src.ofSlice _ under_treesM _ 0 _ [] (by simp) (fun j u hj => (by simp at hj)) (fun u hu => (by simp at hu))), empty_row _ (Nat.le_refl _), below_alloc _⟩
      · obtain ⟨v', w', hr, h2, h3, _, _⟩ := run_append_own_at (P := Tryd.prog) (w.alloc (.cells #[] 55)) w.heap.size 87 87 55 i0 _ 1 16 under_treesM hi hz0 hz1 hz2 rfl (by decide) _ 0 [] (empty_row _ (Nat.le_refl _)) ⟨g, off, none⟩ vals.length cap vals (by simp)
          (fun j u hj => by rw [Addr.add_lit]; exact (Kp.of_below (below_alloc _)).cell _ _ (hc j u hj)) h1 (by unfold maxLen; omega) (by omega) (below_alloc _).size
        rw [Nat.zero_add, List.nil_append] at h2
        exact ⟨v', w', hr, h2, grown_below (below_alloc _) h3 (Nat.le_refl _)⟩
    have HR := hid hr
    have HO := hid ho
    have HB := hid hb
    clear hr ho hb hc
    go_enter Tryd.func56, Tryd.ntmps56
    go_wp2_with (first
      | (at_builtin; refine wpList_append_runT rfl _ _ _ rfl _ _ rfl rfl HR.out ?_))
    go_ret
    exact ⟨_, rfl, HO.out, HB.out⟩

set_option maxRecDepth 1000000 in
set_option maxHeartbeats 1600000 in
theorem reverseM_any (v : Value) (vals : List Value) (base : Nat) (w : World) (h : w.ownsRow base 55 1 v vals.length vals) (hif : ∀ u ∈ vals, IfV u) :
    Calls Tryd.prog 57 #[v] w fun e w' => e = .returned (.tuple #[]) ∧ w'.ownsRow base 55 1 v vals.length vals.reverse ∧ w.grownBy w' v.ownBlock := by
  have hsh : ∃ ao cap, v = .slice ao vals.length cap ∧ vals.length ≤ cap ∧ cap ≤ maxLen := by
    rcases h.2 with ⟨rfl, hn⟩ | ⟨g, cap, cur, rfl, hb, hg, hc, hm, hs, ht⟩
    · exact ⟨none, 0, by rw [hn], by omega, by simp [maxLen]⟩
    · exact ⟨_, cap, rfl, hc, hm⟩
  obtain ⟨ao, cap, rfl, hc1, hc2⟩ := hsh
  unfold maxLen at hc2
  have HV := hid h
  have HIf := hid hif
  clear h hif
  have mixed : Tryd.prog.follows .mixedOrders = true := by kernel_rfl
  go_enter Tryd.func57, Tryd.ntmps57
  go_wp2
  go_loopg [2, 3] vals.length (fun k s2 s3 wr => ∃ (i jn : Nat) (jz : Int) (dk : Array Value), s2 = .int .i64 i ∧ s3 = .int .i64 jz ∧ ((i : Int) < jz → jz = jn ∧ jn < vals.length) ∧ (¬ (i : Int) < jz → ¬ i < jn) ∧ jn - i ≤ k ∧
    dk.size = vals.length ∧ (∀ u ∈ dk.toList, IfV u) ∧ wr.ownsRow base 55 1 (.slice ao vals.length cap) vals.length dk.toList ∧ w.grownBy wr (Value.slice ao vals.length cap).ownBlock ∧ Sort.reverseLoop i jn dk = Sort.reverseLoop 0 (vals.length - 1) vals.toArray)
  case atStart => exact ⟨0, vals.length - 1, (vals.length : Int) - 1, vals.toArray, rfl, rfl, fun h => ⟨by omega, by omega⟩, fun h => by omega, by omega, by simp, HIf.out, HV.out, World.grownBy.refl _ _, rfl⟩
  case round =>
    obtain ⟨i, jn, jz, dk, rfl, rfl, h1, h2, hk, hds, hifd, how, hgr, heq⟩ := hrel
    by_cases hlt : (i : Int) < jz
    · obtain ⟨rfl, hjn⟩ := h1 hlt
      have hij : i < jn := by omega
      obtain ⟨g, cp, hv⟩ := own_form (v := .slice ao vals.length cap) how (by omega)
      simp only [Value.slice.injEq] at hv
      obtain ⟨rfl, _, rfl⟩ := hv
      have ci : wr.cell? ⟨g, i, none⟩ = some dk[i]! := by
        rw [World.ownsRow.cellAt how i (by omega)]
        simp [getElem!_pos, show i < dk.size by omega]
      have cj : wr.cell? ⟨g, jn, none⟩ = some dk[jn]! := by
        rw [World.ownsRow.cellAt how jn (by omega)]
        simp [getElem!_pos, show jn < dk.size by omega]
      have fi := World.ownsRow.frozenAt how i
      have fj := World.ownsRow.frozenAt how jn
      have HOw := hid how
      have HGr := hid hgr
      have HEq := hid heq
      have hil : i < vals.length := by omega
      obtain ⟨xi, hxi⟩ : ∃ x, x = dk[i]! := ⟨_, rfl⟩
      obtain ⟨xj, hxj⟩ : ∃ x, x = dk[jn]! := ⟨_, rfl⟩
      rw [← hxi] at ci
      rw [← hxj] at cj
      obtain ⟨ti, yi, hyi⟩ : IfV xi := by rw [hxi, getElem!_pos dk i (by omega)]; exact hifd _ (Array.getElem_mem_toList (by omega))
      obtain ⟨tj, yj, hyj⟩ : IfV xj := by rw [hxj, getElem!_pos dk jn (by omega)]; exact hifd _ (Array.getElem_mem_toList (by omega))
      subst hyi
      subst hyj
      have HXi := hid hxi
      have HXj := hid hxj
      have HIf2 : Hid (∀ u ∈ (Sort.swp dk i jn).toList, IfV u) := fun u hu => hifd u (swp_mem (by omega) (by omega) hu)
      clear hifd
      clear how hgr heq hxi hxj h1 h2
      have hst := (World.ownsRow.stored HOw.out i (.iface tj yj)).1
      have hst2 := (World.ownsRow.stored hst jn (.iface ti yi)).1
      have HS2 : Hid (((wr.setCell ⟨g, i, none⟩ (.iface tj yj)).setCell ⟨g, jn, none⟩ (.iface ti yi)).drew.ownsRow base 55 1 (.slice (some ⟨g, 0, none⟩) vals.length cap) vals.length (Sort.swp dk i jn).toList) := by
        rw [swp_list (by omega) (by omega), ← HXi.out, ← HXj.out]
        exact ownsRow_later hst2 (drawn_below1 _)
      have HG2 : Hid (w.grownBy ((wr.setCell ⟨g, i, none⟩ (.iface tj yj)).setCell ⟨g, jn, none⟩ (.iface ti yi)).drew (some g)) :=
        grown_trans HGr.out (grown_trans (set_grownT wr g i (.iface tj yj)) (grown_trans (set_grownT _ g jn (.iface ti yi)) (grown_of_below (drawn_below1 _) _)))
      clear hst hst2
      go_wp2_with fail
      go_region_o
      go_wp2
      go_roundg (jn - 1 - (i + 1))
      case measure => omega
      case rel =>
        have h9 := HEq.out
        rw [Sort.reverseLoop, if_pos hij] at h9
        exact ⟨i + 1, jn - 1, (jn : Int) - 1, Sort.swp dk i jn, by simp, rfl, fun h => ⟨by omega, by omega⟩, fun h => by omega, Nat.le_refl _, by rw [Sort.size_swp]; exact hds, HIf2.out, HS2.out, HG2.out, h9⟩
    · have hnot := h2 hlt
      have HR : Hid (dk.toList = vals.reverse) := by
        show _ = _
        rw [Sort.reverseLoop, if_neg hnot] at heq
        have h9 := Lib.reverseLoop_reverse vals.toArray
        rw [show vals.toArray.size = vals.length by simp] at h9
        rw [heq, h9]
        simp
      have HOw := hid how
      have HGr := hid hgr
      clear how hgr heq
      go_wp2
      go_end0
      exact ⟨rfl, by rw [← HR.out]; exact HOw.out, HGr.out⟩

end Go.Proofs.YtcijfaijjpkdoaaDoor
