/- Texts of the proof, one behind the other. -/
import Derived.Test.YtfeeafkfjngemaaDoorOwn2
import Derived.Test.YtfeeafkfjngemaaDoorOwn1
import Derived.Sort.WalkB12
import Derived.Lib.SlicesMore
import Derived.Lib.Walk
import Derived.Deep.LoopGhost
import Derived.Deep.DeepAppendRoom
/- What Canon answers. -/
namespace Go.Proofs.YtfeeafkfjngemaaDoor
open Go.RowKit Go.Maps

theorem numbersAsMet_any (w : World) : Calls Tryd.prog 81 #[] w fun e w' => ∃ b bx, e = .returned (.func (.func 88) #[] #[.pointer (some ⟨bx, 0, none⟩)]) ∧ w'.cell? ⟨bx, 0, none⟩ = some (.map (some b)) ∧ MapV w' b [] ∧ w.heap.size ≤ b ∧ w.heap.size ≤ bx ∧ b ≠ bx ∧ Below w.heap.size w w' := by
  have hmm := @run_makeMap Tryd.prog
  go_enter Tryd.func81, Tryd.ntmps81
  go_wp2
  go_ret
  refine ⟨w.heap.size, w.heap.size + 1, rfl, by simp, (MapV.made w).later (below_alloc _), Nat.le_refl _, by omega, by omega, below_step (below_alloc _) (below_alloc _)⟩

def ER (w : World) (g o : Nat) (x : List Int) : Prop := x.length * 8 ≤ 140737488351232 ∧ ∃ u, w.cell? ⟨g, o, none⟩ = some u ∧ Is w u x
theorem ER.kp {w w' : World} (hk : Kp w w') (g o : Nat) (x : List Int) (h : ER w g o x) : ER w' g o x := by
  obtain ⟨h0, u, h1, h2⟩ := h
  exact ⟨h0, u, hk.cell _ _ h1, h2.kp hk⟩

/-- A list of rows. -/
def Rs (w : World) (v : Value) (l : List (List Int)) : Prop := Row ER 1 w v l
theorem Rs.kp {w w' : World} {v : Value} {l : List (List Int)} (h : Rs w v l) (hk : Kp w w') : Rs w' v l := Row.imp h hk.size (ER.kp hk)

theorem Rs.at {w : World} {ao : Option Addr} {n cap : Nat} {l : List (List Int)} (h : Rs w (.slice ao n cap) l) {k : Nat} (hk : k < l.length) :
    ∃ g off a t c, ao = some ⟨g, off, none⟩ ∧ l[k]? = some t ∧ w.cell? ⟨g, off + k, none⟩ = some (.slice a t.length c) ∧ Is w (.slice a t.length c) t ∧ t.length * 8 ≤ 140737488351232 := by
  obtain ⟨ao', cap', hv, _, _, hx⟩ := Row.flat h
  simp only [Value.slice.injEq] at hv
  obtain ⟨rfl, rfl, rfl⟩ := hv
  obtain ⟨g, off, t, rfl, hm, h3, v, h5, h6⟩ := hx k hk
  obtain ⟨a, c, rfl, _⟩ := Row.flat h6
  rw [Nat.mul_one] at h5
  exact ⟨g, off, a, t, c, rfl, hm, h5, h6, h3⟩

def canG : Met → List (List Int) → List (List Int)
  | _, [] => []
  | m, t :: l => (renG numN m t).1 :: canG (renG numN m t).2 l

def canL (l : List (List Int)) : List (List Int) := canG [] l

/-- Rows of one's own, by their values. -/
def OwR (w : World) (base : Nat) (vs : List Value) (l : List (List Int)) : Prop := vs.length = l.length ∧ ∀ (j : Nat) (u : Value) (x : List Int), vs[j]? = some u → l[j]? = some x → OwI w base u x

def NumOk (b bx : Nat) (w : World) (m : Met) : Prop := w.cell? ⟨bx, 0, none⟩ = some (.map (some b)) ∧ MapV w b (metV m) ∧ ∀ p ∈ m, 0 ≤ p.2 ∧ p.2 < (m.length : Int)

theorem numN_len (m : Met) (n : Int) : (numN m n).2.length ≤ m.length + 1 := by
  unfold numN
  split <;> simp

theorem numN_in {m : Met} {n : Int} (h : ∀ p ∈ m, 0 ≤ p.2 ∧ p.2 < (m.length : Int)) : (0 ≤ (numN m n).1 ∧ (numN m n).1 ≤ (m.length : Int)) ∧ ∀ p ∈ (numN m n).2, 0 ≤ p.2 ∧ p.2 < ((numN m n).2.length : Int) := by
  unfold numN
  split
  · rename_i i hi
    have := h _ (lookup_mem hi)
    exact ⟨by simp only at this ⊢; omega, h⟩
  · refine ⟨by simp only; omega, fun p hp => ?_⟩
    simp only [List.length_cons]
    cases hp with
    | head => simp only; omega
    | tail _ hp => have := h p hp; omega

theorem renumber_canon (b bx : Nat) (v : Value) (t : List Int) (m : Met) (w : World) (hb : b < w.heap.size) (hbx : bx < w.heap.size) (_hne : b ≠ bx) (hst : NumOk b bx w m) (h : Is w v t) (hlen : t.length * 8 ≤ 140737488351232) (hm : m.length ≤ 4611686018427387904) :
    Calls Tryd.prog 82 #[v, .func (.func 88) #[] #[.pointer (some ⟨bx, 0, none⟩)]] w fun e w' => ∃ v', e = .returned v' ∧ OwI w' w.heap.size v' (renG numN m t).1 ∧ NumOk b bx w' (renG numN m t).2 ∧ w.grownBy w' (some b) := by
  refine renumber_any (σ := Met) (NumOk b bx) numN (fun n => 0 ≤ n ∧ n ≤ 9223372036854775807) b 88 (.pointer (some ⟨bx, 0, none⟩)) v t m w List.length numN_len hb hst hlen ?_ ?_ ?_ ?_ ?_ (enters_of Tryd.func88 (by kernel_rfl) rfl)
  · rintro w1 w2 s r ⟨h1, h2, h3⟩ hg hr hj _
    refine ⟨?_, h2.kept hg hr, h3⟩
    have hx : some bx ≠ r := fun e => by
      have := hj bx e.symm
      omega
    rw [World.cell?_of_block (hg.block bx (World.block_lt_of_cell? _ _ h1) hx)]
    exact h1
  · intro w' hg
    obtain ⟨es, ck, hes⟩ := hst.2.1.isMap
    exact h.kp (Kp.of_map hg hes)
  · rintro n s w1 ⟨hn1, hn2⟩ ⟨h1, h2, h3⟩ hs
    refine (number_closure n b bx s w1 h1 h2 (by omega) (by omega) hn2).mono ?_
    rintro e w2 ⟨rfl, k1, k2, k3⟩
    exact ⟨rfl, ⟨k1, k2, (numN_in h3).2⟩, k3⟩
  · rintro s n w1 _ ⟨h1, h2, h3⟩ hs
    have := (numN_in (n := n) h3).1
    omega
  · intro c hc h0
    have hz : -9223372036854775808 ≤ c := by
      obtain ⟨ao, cap, rfl, _, _, hx⟩ := Row.flat h
      obtain ⟨k, hk, rfl⟩ := List.getElem_of_mem hc
      obtain ⟨_, _, y, _, hy, h1, _⟩ := hx k hk
      rw [List.getElem?_eq_getElem hk] at hy
      cases hy
      exact h1
    omega

theorem info_ints : (Tryd.prog.info? 30).map (fun i => (i.zero, i.size, i.bytes)) = some (some (.slice none 0 0), 1, 24) := by kernel_rfl
theorem under_rows : Tryd.prog.underlying 90 = some (.slice 30) := by kernel_rfl

theorem made_nilS (n : Nat) : (madeCells (Value.slice none 0 0).cells (n * 1)).toList = List.replicate n (.slice none 0 0) := by
  have : (Value.slice none 0 0).cells = #[Value.slice none 0 0] := rfl
  rw [this, toList_madeCells_one, Nat.mul_one]

theorem own_lt {w : World} {base g n c m : Nat} {e : TypeId} {s : Nat} {xs : List Value} (h : w.ownsRow base e s (.slice (some ⟨g, 0, none⟩) n c) m xs) : g < w.heap.size := by
  rcases h.2 with ⟨hv, _⟩ | ⟨g', cap, cur, hv, _, hg, _⟩
  · cases hv
  · cases hv
    exact (Array.getElem?_eq_some_iff.1 hg).1

theorem sum_take : ∀ (l : List (List Int)) (k : Nat), ((l.take k).map List.length).sum ≤ (l.map List.length).sum
  | [], k => by simp
  | a :: l, 0 => by simp
  | a :: l, k + 1 => by
    have := sum_take l k
    simp only [List.take_succ_cons, List.map_cons, List.sum_cons]
    omega

theorem renG_len : ∀ (t : List Int) (m : Met), (renG numN m t).2.length ≤ m.length + t.length
  | [], m => by simp [renG]
  | c :: t, m => by
    unfold renG
    split
    · have h1 := renG_len t (numN m (-1 - c)).2
      have h2 := numN_len m (-1 - c)
      simp only [List.length_cons]
      omega
    · have h1 := renG_len t m
      simp only [List.length_cons]
      omega

set_option maxRecDepth 100000 in
set_option maxHeartbeats 1600000 in
theorem canon_any (v : Value) (l : List (List Int)) (w : World) (h : Rs w v l) (hn : l.length * 24 ≤ 140737488351232) (hsum : (l.map List.length).sum ≤ 4611686018427387904) :
    Calls Tryd.prog 64 #[v] w fun e w' => ∃ v' vs, e = .returned v' ∧ w'.ownsRow w.heap.size 30 1 v' l.length vs ∧ OwR w' w.heap.size vs (canL l) ∧ Below w.heap.size w w' := by
  obtain ⟨i1, hi1, hy0, hy1, hy2⟩ := info_parts info_ints
  obtain ⟨ao, cap, rfl, hao, hca, q0⟩ := Row.flat h
  unfold maxLen at hca
  have HR := hid h
  clear h q0
  go_enter Tryd.func64, Tryd.ntmps64
  go_wp2_with fail
  refine (numbersAsMet_any w).mono ?_
  rintro e w1 ⟨b, bx, rfl, hbx, hmv, hb1, hb2, hb3, hbl⟩
  have HBx := hid hbx
  have HMv := hid hmv
  have HB1 := hid hbl
  clear hbx hmv hbl
  go_wp2_with (first
    | (at_make; refine wpList_make_full _ rfl _ _ 90 rfl w.heap.size 30 i1 (.slice none 0 0) 1 under_rows hi1 hy0 hy1 .i64 .i64 _ _ l.length rfl rfl (by omega) (by omega) (by rw [hy2]; omega) (by unfold maxLen; omega) HB1.out.size ?_; intro w0 hown0 hgrow0))
  have hbR : b < w1.heap.size := HMv.out.lt
  have hbxR : bx < w1.heap.size := World.block_lt_of_cell? _ _ HBx.out
  have hRw : w.heap.size ≤ w1.heap.size := HB1.out.size
  have hb0 : Below w1.heap.size w1 w0 := (Below.refl _ _).grown hgrow0 (Nat.le_refl _) (by intro k hk; cases hk)
  rw [made_nilS] at hown0
  have HO0 := hid hown0
  have HB0 : Hid (Below w.heap.size w w0) := below_step HB1.out hb0
  have HN0 : Hid (NumOk b bx w0 []) := ⟨(Kp.of_below hb0).cell _ _ HBx.out, HMv.out.later hb0, fun p hp => (by cases hp)⟩
  clear hown0 hgrow0 hb0
  obtain ⟨R, hR⟩ : ∃ R, R = w1.heap.size := ⟨_, rfl⟩
  rw [← hR] at hbR hbxR hRw HO0 ⊢
  clear hR HBx HMv
  go_loopw [13] (fun i wr => ∃ (k : Nat) (vs : List Value) (dn : List (List Int)) (m : Met), k ≤ l.length ∧ i = .int .i64 k ∧ dn.length = k ∧ canL l = dn ++ canG m (l.drop k) ∧ wr.ownsRow w.heap.size 30 1 (.slice (some ⟨R, 0, none⟩) l.length l.length) l.length (vs ++ List.replicate (l.length - k) (.slice none 0 0)) ∧ OwR wr w.heap.size vs dn ∧ NumOk b bx wr m ∧ m.length ≤ ((l.take k).map List.length).sum ∧ Below w.heap.size w wr) (fun i _ => l.length - (intOf i).toNat)
  case atStart => exact ⟨0, [], [], [], Nat.zero_le _, rfl, rfl, rfl, by simpa using HO0.out, ⟨rfl, fun j u x hj => (by simp at hj)⟩, HN0.out, by simp, HB0.out⟩
  case round =>
    obtain ⟨k, vs, dn, m, hk, rfl, hdn, hcan, how, howr, hnum, hml, hbl⟩ := hrel
    have HDn := hid hdn
    have HCan := hid hcan
    have HOw := hid how
    have HOwr := hid howr
    have HNum := hid hnum
    have HMl := hid hml
    have HB := hid hbl
    clear hdn hcan how howr hnum hml HO0 HB0 HN0
    by_cases hlt : k < l.length
    · obtain ⟨g, off, ra, t, rc, rfl, hm, hc0, hit, ht8⟩ := (HR.out.kp (Kp.of_below hbl)).at hlt
      have HIt := hid hit
      have hvl : vs.length = k := HOwr.out.1.trans HDn.out
      have hRlt : R < wr.heap.size := own_lt HOw.out
      have HSum : Hid (m.length ≤ 4611686018427387904 ∧ (m.length + t.length ≤ ((l.take (k + 1)).map List.length).sum)) := by
        have h1 := HMl.out
        have h2 := sum_take l k
        rw [List.take_add_one, hm]
        simp only [Option.toList, List.map_append, List.map_cons, List.map_nil, List.sum_append, List.sum_cons, List.sum_nil]
        exact ⟨by omega, by omega⟩
      have HDr : Hid (l.drop k = t :: l.drop (k + 1)) := drop_get hm
      clear hm hit
      go_wp2_with fail
      refine (renumber_canon b bx _ t m wr (by omega) (by omega) hb3 HNum.out HIt.out ht8 HSum.out.1).mono ?_
      rintro e w2 ⟨v', rfl, ho2, hn2, hg2⟩
      obtain ⟨es, ck, hes⟩ := HNum.out.2.1.isMap
      have hR2 : R ≠ b := by omega
      have ho : w2.ownsRow w.heap.size 30 1 (.slice (some ⟨R, 0, none⟩) l.length l.length) l.length (vs ++ List.replicate (l.length - k) (.slice none 0 0)) := HOw.out.kept hg2 (.inr (by simp [Value.ownBlock]; omega))
      have hc3 : w2.cell? ⟨R, k, none⟩ = some (.slice none 0 0) := by
        have := World.ownsRow.cellAt ho k (by omega)
        rw [this, List.getElem?_append_right (by omega), hvl, Nat.sub_self, List.getElem?_replicate, if_pos (by omega)]
      have hf3 : w2.frozen? ⟨R, k, none⟩ = false := World.ownsRow.frozenAt ho k
      have hst := (World.ownsRow.stored ho k v').1
      have hset : (vs ++ List.replicate (l.length - k) (Value.slice none 0 0)).set k v' = (vs ++ [v']) ++ List.replicate (l.length - (k + 1)) (Value.slice none 0 0) := by
        rw [show l.length - k = (l.length - (k + 1)) + 1 by omega, List.replicate_succ, set_midI _ _ _ _ _ hvl]
        simp
      rw [hset] at hst
      have HSt := hid hst
      have HOwr2 : Hid (OwR (w2.setCell ⟨R, k, none⟩ v') w.heap.size (vs ++ [v']) (dn ++ [(renG numN m t).1])) := by
        refine ⟨by rw [List.length_append, List.length_append, HOwr.out.1]; rfl, fun j u x hj hx => ?_⟩
        have hstep : ∀ {u x}, OwI w2 w.heap.size u x → OwI (w2.setCell ⟨R, k, none⟩ v') w.heap.size u x := fun {u x} hu => hu.kept (set_grown w2 R k v') (ownsRow_apart hu.2 ho (by decide))
        by_cases hjl : j < vs.length
        · rw [List.getElem?_append_left hjl] at hj
          rw [List.getElem?_append_left (by rw [← HOwr.out.1]; exact hjl)] at hx
          have hu := HOwr.out.2 j u x hj hx
          exact hstep (hu.kept hg2 (own_notMap hu.2 hes))
        · rw [List.getElem?_append_right (by omega)] at hj
          rw [List.getElem?_append_right (by rw [← HOwr.out.1]; omega), ← HOwr.out.1] at hx
          have hj0 : j - vs.length = 0 := by
            have := (List.getElem?_eq_some_iff.1 hj).1
            simp at this
            omega
          rw [hj0] at hj hx
          simp at hj hx
          subst hj
          subst hx
          exact hstep (ho2.mono HB.out.size)
      have HNum2 : Hid (NumOk b bx (w2.setCell ⟨R, k, none⟩ v') (renG numN m t).2) := by
        refine ⟨?_, hn2.2.1.kept (set_grown w2 R k v') (by simpa using hR2), hn2.2.2⟩
        have hx : some bx ≠ some R := by simp; omega
        rw [World.cell?_of_block ((set_grown w2 R k v').block bx (World.block_lt_of_cell? _ _ hn2.1) hx)]
        exact hn2.1
      have HB2 : Hid (Below w.heap.size w (w2.setCell ⟨R, k, none⟩ v')) := (HB.out.grown hg2 HB.out.size (fun j hj => by cases hj; exact hb1)).setCell (p := ⟨R, k, none⟩) hRw _
      have HMl2 : Hid ((renG numN m t).2.length ≤ ((l.take (k + 1)).map List.length).sum) := by
        have h1 := renG_len t m
        have h2 := HSum.out.2
        show _ ≤ _
        omega
      have HCan2 : Hid (canL l = (dn ++ [(renG numN m t).1]) ++ canG (renG numN m t).2 (l.drop (k + 1))) := by
        show _ = _
        rw [HCan.out, HDr.out, canG]
        simp
      obtain ⟨va, vc, rfl, _, _⟩ := ho2.shape
      clear ho2 hn2 hg2 hst hset hes ho
      go_wp2
      go_roundw
      case rel => exact ⟨k + 1, vs ++ [_], dn ++ [(renG numN m t).1], (renG numN m t).2, by omega, by go_num, by rw [List.length_append, HDn.out]; rfl, HCan2.out, HSt.out, HOwr2.out, HNum2.out, HMl2.out, HB2.out⟩
      case measure => simp [intOf]; omega
    · have hke : k = l.length := by omega
      have HF : Hid (canL l = dn) := by
        show _ = _
        rw [HCan.out, List.drop_of_length_le (by omega)]
        simp [canG]
      have HO : Hid (wr.ownsRow w.heap.size 30 1 (.slice (some ⟨R, 0, none⟩) l.length l.length) l.length vs) := by
        have := HOw.out
        rw [show l.length - k = 0 by omega, List.replicate_zero, List.append_nil] at this
        exact this
      go_wp2
      go_ret
      exact ⟨_, vs, rfl, HO.out, by rw [HF.out]; exact HOwr.out, HB.out⟩

end Go.Proofs.YtfeeafkfjngemaaDoor

/- Canon, plainly: it is blind to a renaming, and numbers what it numbered the same again. -/
namespace Go.Proofs.YtfeeafkfjngemaaDoor
open Go.RowKit Go.Maps

/-- A code whose variable has another number. -/
def reC (f : Int → Int) (c : Int) : Int := if c < 0 then -1 - f (-1 - c) else c
def reK (f : Int → Int) (m : Met) : Met := m.map fun p => (f p.1, p.2)

theorem reK_lookup {f : Int → Int} {S : Int → Prop} (hf : ∀ a b, S a → S b → f a = f b → a = b) (n : Int) (hn : S n) : ∀ m : Met, (∀ p ∈ m, S p.1) → (reK f m).lookup (f n) = m.lookup n
  | [], _ => rfl
  | (k, i) :: m, h => by
    show List.lookup (f n) ((f k, i) :: reK f m) = _
    rw [List.lookup_cons, List.lookup_cons]
    have hk := h _ (.head _)
    by_cases e : n = k
    · subst e
      simp
    · rw [show (n == k) = false by simpa using e, show (f n == f k) = false by simp; exact fun e2 => e (hf n k hn hk e2)]
      exact reK_lookup hf n hn m (fun p hp => h p (.tail _ hp))

theorem numN_re {f : Int → Int} {S : Int → Prop} (hf : ∀ a b, S a → S b → f a = f b → a = b) (m : Met) (n : Int) (hm : ∀ p ∈ m, S p.1) (hn : S n) :
    numN (reK f m) (f n) = ((numN m n).1, reK f (numN m n).2) ∧ ∀ p ∈ (numN m n).2, S p.1 := by
  unfold numN
  rw [reK_lookup hf n hn m hm]
  cases m.lookup n with
  | some i => exact ⟨rfl, hm⟩
  | none =>
    refine ⟨by simp [reK], fun p hp => ?_⟩
    cases hp with
    | head => exact hn
    | tail _ hp => exact hm p hp

theorem renG_re {f : Int → Int} {S : Int → Prop} (hf : ∀ a b, S a → S b → f a = f b → a = b) (h0 : ∀ a, S a → 0 ≤ f a) : ∀ (t : List Int) (m : Met), (∀ p ∈ m, S p.1) → (∀ c ∈ t, c < 0 → S (-1 - c)) →
    renG numN (reK f m) (t.map (reC f)) = ((renG numN m t).1, reK f (renG numN m t).2) ∧ ∀ p ∈ (renG numN m t).2, S p.1
  | [], m, hm, _ => ⟨rfl, hm⟩
  | c :: t, m, hm, ht => by
    by_cases hc : c < 0
    · have hs := ht c (.head _) hc
      obtain ⟨e1, e2⟩ := numN_re hf m (-1 - c) hm hs
      obtain ⟨e3, e4⟩ := renG_re hf h0 t (numN m (-1 - c)).2 e2 (fun x hx => ht x (.tail _ hx))
      have hr : reC f c = -1 - f (-1 - c) := by unfold reC; rw [if_pos hc]
      have hneg : -1 - f (-1 - c) < 0 := by have := h0 _ hs; omega
      rw [List.map_cons, hr]
      simp only [renG, if_pos hneg, if_pos hc, show -1 - (-1 - f (-1 - c)) = f (-1 - c) by omega, e1, e3]
      exact ⟨trivial, e4⟩
    · obtain ⟨e3, e4⟩ := renG_re hf h0 t m hm (fun x hx => ht x (.tail _ hx))
      have hr : reC f c = c := by unfold reC; rw [if_neg hc]
      rw [List.map_cons, hr]
      simp only [renG, if_neg hc, e3]
      exact ⟨trivial, e4⟩

theorem canG_re {f : Int → Int} {S : Int → Prop} (hf : ∀ a b, S a → S b → f a = f b → a = b) (h0 : ∀ a, S a → 0 ≤ f a) : ∀ (l : List (List Int)) (m : Met), (∀ p ∈ m, S p.1) → (∀ t ∈ l, ∀ c ∈ t, c < 0 → S (-1 - c)) →
    canG (reK f m) (l.map fun t => t.map (reC f)) = canG m l
  | [], _, _, _ => rfl
  | t :: l, m, hm, hl => by
    obtain ⟨e1, e2⟩ := renG_re hf h0 t m hm (hl t (.head _))
    rw [List.map_cons]
    simp only [canG, e1]
    rw [canG_re hf h0 l _ e2 (fun x hx => hl x (.tail _ hx))]

/-- A row shifted is a row renamed. -/
theorem canL_shift (d : Int) (l : List (List Int)) (hl : ∀ t ∈ l, ∀ c ∈ t, c < 0 → 0 ≤ -1 - c + d) : canL (l.map fun t => t.map fun c => if c < 0 then c - d else c) = canL l := by
  have h := canG_re (f := fun n => n + d) (S := fun n => 0 ≤ n + d) (fun a b _ _ e => by omega) (fun a h => h) l [] (fun p hp => (by cases hp)) hl
  have e : (fun t : List Int => t.map (reC fun n => n + d)) = fun t => t.map fun c => if c < 0 then c - d else c := by
    funext t
    congr 1
    funext c
    unfold reC
    by_cases hc : c < 0
    · rw [if_pos hc, if_pos hc]
      show -1 - (-1 - c + d) = c - d
      omega
    · rw [if_neg hc, if_neg hc]
  rw [e] at h
  exact h

/-- What is met behind all rows. -/
def canS : Met → List (List Int) → Met
  | m, [] => m
  | m, t :: l => canS (renG numN m t).2 l

/-- What one holds the other holds. -/
def Ext (m m' : Met) : Prop := ∀ n i, m.lookup n = some i → m'.lookup n = some i

theorem ext_num (m : Met) (n : Int) : Ext m (numN m n).2 := fun k i hk => by
  unfold numN
  cases hn : m.lookup n with
  | some j => exact hk
  | none =>
    have e : k ≠ n := fun e => by rw [e, hn] at hk; cases hk
    show List.lookup k ((n, (m.length : Int)) :: m) = _
    rw [List.lookup_cons, show (k == n) = false by simpa using e]
    exact hk

theorem val_num (m : Met) (n : Int) : (numN m n).2.lookup n = some (numN m n).1 := by
  unfold numN
  cases hn : m.lookup n with
  | some j => exact hn
  | none =>
    show List.lookup n ((n, (m.length : Int)) :: m) = _
    rw [List.lookup_cons, show (n == n) = true by simp]

theorem ext_ren : ∀ (t : List Int) (m : Met), Ext m (renG numN m t).2
  | [], _ => fun _ _ h => h
  | c :: t, m => fun n i h => by
    unfold renG
    split
    · exact ext_ren t _ n i (ext_num m (-1 - c) n i h)
    · exact ext_ren t m n i h

theorem ext_can : ∀ (l : List (List Int)) (m : Met), Ext m (canS m l)
  | [], _ => fun _ _ h => h
  | t :: l, m => fun n i h => ext_can l _ n i (ext_ren t m n i h)

/-- The number that a variable has in the end. -/
def numF (F : Met) (n : Int) : Int := (F.lookup n).getD 0

theorem ren_map (F : Met) : ∀ (t : List Int) (m : Met), Ext (renG numN m t).2 F → (renG numN m t).1 = t.map (reC (numF F)) ∧ ∀ c ∈ t, c < 0 → (F.lookup (-1 - c)).isSome = true
  | [], _, _ => ⟨rfl, fun c hc => (by cases hc)⟩
  | c :: t, m, h => by
    by_cases hc : c < 0
    · have e : renG numN m (c :: t) = ((-1 - (numN m (-1 - c)).1) :: (renG numN (numN m (-1 - c)).2 t).1, (renG numN (numN m (-1 - c)).2 t).2) := by simp only [renG, if_pos hc]
      rw [e] at h
      obtain ⟨h1, h2⟩ := ren_map F t (numN m (-1 - c)).2 h
      have hv := h _ _ (ext_ren t _ _ _ (val_num m (-1 - c)))
      refine ⟨?_, fun x hx hx0 => ?_⟩
      · rw [e, List.map_cons, ← h1]
        simp only [reC, if_pos hc, numF, hv, Option.getD_some]
      · cases hx with
        | head => rw [hv]; rfl
        | tail _ hx => exact h2 x hx hx0
    · have e : renG numN m (c :: t) = (c :: (renG numN m t).1, (renG numN m t).2) := by simp only [renG, if_neg hc]
      rw [e] at h
      obtain ⟨h1, h2⟩ := ren_map F t m h
      refine ⟨?_, fun x hx hx0 => ?_⟩
      · rw [e, List.map_cons, ← h1]
        simp only [reC, if_neg hc]
      · cases hx with
        | head => exact absurd hx0 hc
        | tail _ hx => exact h2 x hx hx0

theorem can_map (F : Met) : ∀ (l : List (List Int)) (m : Met), Ext (canS m l) F → canG m l = (l.map fun t => t.map (reC (numF F))) ∧ ∀ t ∈ l, ∀ c ∈ t, c < 0 → (F.lookup (-1 - c)).isSome = true
  | [], _, _ => ⟨rfl, fun t ht => (by cases ht)⟩
  | t :: l, m, h => by
    obtain ⟨h1, h2⟩ := can_map F l (renG numN m t).2 h
    obtain ⟨h3, h4⟩ := ren_map F t m (fun n i hn => h n i (ext_can l _ n i hn))
    refine ⟨by rw [List.map_cons, ← h1, ← h3]; rfl, fun x hx => ?_⟩
    cases hx with
    | head => exact h4
    | tail _ hx => exact h2 x hx

/-- Unlike variables have unlike numbers, none below 0, none from the count on. -/
def Apt (m : Met) : Prop := (∀ a b i, m.lookup a = some i → m.lookup b = some i → a = b) ∧ ∀ p ∈ m, 0 ≤ p.2 ∧ p.2 < (m.length : Int)

theorem apt_num {m : Met} (h : Apt m) (n : Int) : Apt (numN m n).2 := by
  refine ⟨?_, (numN_in h.2).2⟩
  unfold numN
  cases hn : m.lookup n with
  | some j => exact h.1
  | none =>
    intro a b i ha hb
    rw [List.lookup_cons] at ha hb
    by_cases ea : a = n
    · by_cases eb : b = n
      · rw [ea, eb]
      · subst ea
        rw [show (b == a) = false by simpa using eb] at hb
        simp at ha
        have := h.2 _ (lookup_mem hb)
        simp only at this
        omega
    · rw [show (a == n) = false by simpa using ea] at ha
      by_cases eb : b = n
      · subst eb
        simp at hb
        have := h.2 _ (lookup_mem ha)
        simp only at this
        omega
      · rw [show (b == n) = false by simpa using eb] at hb
        exact h.1 a b i ha hb

theorem apt_ren : ∀ (t : List Int) (m : Met), Apt m → Apt (renG numN m t).2
  | [], _, h => h
  | c :: t, m, h => by
    unfold renG
    split
    · exact apt_ren t _ (apt_num h _)
    · exact apt_ren t m h

theorem apt_can : ∀ (l : List (List Int)) (m : Met), Apt m → Apt (canS m l)
  | [], _, h => h
  | t :: l, m, h => apt_can l _ (apt_ren t m h)

/-- Canon of what Canon numbered is the same. -/
theorem canL_again (l : List (List Int)) : canL (canL l) = canL l := by
  have hA : Apt (canS [] l) := apt_can l [] ⟨fun a b i h => (by cases h), fun p hp => (by cases hp)⟩
  obtain ⟨h1, h2⟩ := can_map (canS [] l) l [] (fun _ _ h => h)
  have h3 := canG_re (f := numF (canS [] l)) (S := fun n => ((canS [] l).lookup n).isSome = true) (fun a b ha hb e => by
    obtain ⟨i, hi⟩ := Option.isSome_iff_exists.1 ha
    obtain ⟨j, hj⟩ := Option.isSome_iff_exists.1 hb
    simp only [numF, hi, hj, Option.getD_some] at e
    subst e
    exact hA.1 a b i hi hj) (fun a ha => by
    obtain ⟨i, hi⟩ := Option.isSome_iff_exists.1 ha
    simp only [numF, hi, Option.getD_some]
    exact (hA.2 _ (lookup_mem hi)).1) l [] (fun p hp => (by cases hp)) h2
  unfold canL
  rw [h1]
  rw [h1] at h3
  exact h3

end Go.Proofs.YtfeeafkfjngemaaDoor

/- Canon as the document numbers: by a row of the codes met. -/
namespace Go.Proofs.YtfeeafkfjngemaaDoor
open Go.RowKit Go.Maps

/-- The number of a variable by a row of codes met, and the row then. -/
def docN (met : List Int) (n : Int) : Int × List Int := if -1 - n ∈ met then ((met.idxOf (-1 - n) : Nat), met) else ((met.length : Nat), met ++ [-1 - n])

def canD : List Int → List (List Int) → List (List Int)
  | _, [] => []
  | met, t :: l => (renG docN met t).1 :: canD (renG docN met t).2 l

/-- The map and the row hold the same. -/
def Rel (m : Met) (met : List Int) : Prop := m.length = met.length ∧ ∀ n : Int, m.lookup n = if -1 - n ∈ met then some ((met.idxOf (-1 - n) : Nat) : Int) else none

theorem rel_num {m : Met} {met : List Int} (h : Rel m met) (n : Int) : (numN m n).1 = (docN met n).1 ∧ Rel (numN m n).2 (docN met n).2 := by
  unfold numN docN
  rw [h.2 n]
  by_cases hn : -1 - n ∈ met
  · rw [if_pos hn, if_pos hn]
    exact ⟨rfl, h⟩
  · rw [if_neg hn, if_neg hn]
    refine ⟨by show ((m.length : Nat) : Int) = _; rw [h.1], ?_, fun k => ?_⟩
    · show ((n, (m.length : Int)) :: m).length = (met ++ [-1 - n]).length
      rw [List.length_cons, List.length_append, h.1]
      rfl
    · show List.lookup k ((n, (m.length : Int)) :: m) = if -1 - k ∈ met ++ [-1 - n] then some (((met ++ [-1 - n]).idxOf (-1 - k) : Nat) : Int) else none
      rw [List.lookup_cons]
      by_cases e : k = n
      · subst e
        rw [show (k == k) = true by simp, if_pos (by simp), List.idxOf_append, if_neg hn, h.1]
        simp
      · rw [show (k == n) = false by simpa using e]
        show List.lookup k m = _
        rw [h.2 k]
        by_cases hk : -1 - k ∈ met
        · rw [if_pos hk, if_pos (List.mem_append_left _ hk), List.idxOf_append, if_pos hk]
        · rw [if_neg hk, if_neg (by
            intro hh
            rcases List.mem_append.1 hh with hh | hh
            · exact hk hh
            · simp at hh
              omega)]

theorem rel_ren : ∀ (t : List Int) {m : Met} {met : List Int}, Rel m met → (renG numN m t).1 = (renG docN met t).1 ∧ Rel (renG numN m t).2 (renG docN met t).2
  | [], _, _, h => ⟨rfl, h⟩
  | c :: t, m, met, h => by
    by_cases hc : c < 0
    · obtain ⟨h1, h2⟩ := rel_num h (-1 - c)
      obtain ⟨h3, h4⟩ := rel_ren t h2
      simp only [renG, if_pos hc]
      exact ⟨by rw [h1, h3], h4⟩
    · obtain ⟨h3, h4⟩ := rel_ren t h
      simp only [renG, if_neg hc]
      exact ⟨by rw [h3], h4⟩

theorem rel_can : ∀ (l : List (List Int)) {m : Met} {met : List Int}, Rel m met → canG m l = canD met l
  | [], _, _, _ => rfl
  | t :: l, m, met, h => by
    obtain ⟨h1, h2⟩ := rel_ren t h
    unfold canG canD
    rw [h1, rel_can l h2]

/-- Both number alike. -/
theorem canL_doc (l : List (List Int)) : canL l = canD [] l := rel_can l ⟨rfl, fun n => (by simp)⟩

end Go.Proofs.YtfeeafkfjngemaaDoor

/- When two rules number their variables alike, plainly. -/
namespace Go.Proofs.YtfeeafkfjngemaaDoor
open Go.RowKit Go.Maps

theorem metA_app : ∀ (a b m : List Int), metA m (a ++ b) = metA (metA m a) b
  | [], b, m => rfl
  | c :: a, b, m => by
    by_cases h : 0 ≤ c ∨ c ∈ m
    · have e1 : metA m (c :: a) = metA m a := by conv => lhs; unfold metA; rw [if_pos h]
      have e2 : metA m (c :: (a ++ b)) = metA m (a ++ b) := by conv => lhs; unfold metA; rw [if_pos h]
      rw [List.cons_append, e1, e2, metA_app a b m]
    · have e1 : metA m (c :: a) = metA (m ++ [c]) a := by conv => lhs; unfold metA; rw [if_neg h]
      have e2 : metA m (c :: (a ++ b)) = metA (m ++ [c]) (a ++ b) := by conv => lhs; unfold metA; rw [if_neg h]
      rw [List.cons_append, e1, e2, metA_app a b (m ++ [c])]

theorem metA_ext : ∀ (a m : List Int), ∃ r, metA m a = m ++ r
  | [], m => ⟨[], by simp [metA]⟩
  | c :: a, m => by
    unfold metA
    split
    · exact metA_ext a m
    · obtain ⟨r, hr⟩ := metA_ext a (m ++ [c])
      exact ⟨c :: r, by rw [hr]; simp⟩

theorem metA_neg : ∀ (a m : List Int), (∀ c ∈ m, c < 0) → ∀ c ∈ metA m a, c < 0
  | [], m, h, c, hc => h c hc
  | d :: a, m, h, c, hc => by
    unfold metA at hc
    split at hc
    · exact metA_neg a m h c hc
    · rename_i hn
      refine metA_neg a (m ++ [d]) (fun e he => ?_) c hc
      rcases List.mem_append.1 he with he | he
      · exact h e he
      · simp at he
        subst he
        omega

theorem metA_mem : ∀ (a m : List Int) (c : Int), c ∈ metA m a ↔ c ∈ m ∨ (c ∈ a ∧ c < 0)
  | [], m, c => by simp [metA]
  | d :: a, m, c => by
    unfold metA
    split
    · rename_i hd
      rw [metA_mem a m c]
      constructor
      · rintro (h | ⟨h, h0⟩)
        · exact .inl h
        · exact .inr ⟨by simp [h], h0⟩
      · rintro (h | ⟨h, h0⟩)
        · exact .inl h
        · rcases List.mem_cons.1 h with rfl | h
          · rcases hd with hd | hd
            · omega
            · exact .inl hd
          · exact .inr ⟨h, h0⟩
    · rename_i hd
      rw [metA_mem a (m ++ [d]) c]
      constructor
      · rintro (h | ⟨h, h0⟩)
        · rcases List.mem_append.1 h with h | h
          · exact .inl h
          · simp at h
            subst h
            exact .inr ⟨by simp, by omega⟩
        · exact .inr ⟨by simp [h], h0⟩
      · rintro (h | ⟨h, h0⟩)
        · exact .inl (by simp [h])
        · rcases List.mem_cons.1 h with rfl | h
          · exact .inl (by simp)
          · exact .inr ⟨h, h0⟩

theorem met_once : ∀ (t m : List Int), m.Nodup → (metA m t).Nodup
  | [], m, h => h
  | c :: t, m, h => by
    unfold metA
    split
    · exact met_once t m h
    · rename_i hn
      refine met_once t (m ++ [c]) ?_
      rw [List.nodup_append]
      refine ⟨h, by simp, ?_⟩
      intro a ha b hb e
      simp at hb
      subst hb
      subst e
      exact hn (.inr ha)

/-- A code by its number among those met. -/
def numC (F : List Int) (c : Int) : Int := if c < 0 then -1 - ((F.idxOf c : Nat) : Int) else c

theorem doc_ren : ∀ (t met F : List Int), (∃ r, F = metA met t ++ r) → (renG docN met t).1 = t.map (numC F) ∧ (renG docN met t).2 = metA met t
  | [], met, F, _ => ⟨rfl, rfl⟩
  | c :: t, met, F, h => by
    by_cases hc : c < 0
    · have e0 : -1 - (-1 - c) = c := by omega
      by_cases hm : c ∈ met
      · have e1 : metA met (c :: t) = metA met t := by conv => lhs; unfold metA; rw [if_pos (.inr hm)]
        rw [e1] at h
        obtain ⟨h1, h2⟩ := doc_ren t met F h
        have e2 : docN met (-1 - c) = (((met.idxOf c : Nat) : Int), met) := by unfold docN; rw [e0, if_pos hm]
        simp only [renG, if_pos hc, e2, h1, h2, e1, List.map_cons, and_true, List.cons.injEq]
        obtain ⟨r, hr⟩ := h
        obtain ⟨r2, hr2⟩ := metA_ext t met
        have e3 : numC F c = -1 - ((met.idxOf c : Nat) : Int) := by
          unfold numC
          rw [if_pos hc, hr, hr2, List.append_assoc, List.idxOf_append, if_pos hm]
        rw [e3]
      · have e1 : metA met (c :: t) = metA (met ++ [c]) t := by conv => lhs; unfold metA; rw [if_neg (fun h9 => h9.elim (fun h8 => absurd h8 (by omega)) hm)]
        rw [e1] at h
        obtain ⟨h1, h2⟩ := doc_ren t (met ++ [c]) F h
        have e2 : docN met (-1 - c) = (((met.length : Nat) : Int), met ++ [c]) := by unfold docN; rw [e0, if_neg hm]
        simp only [renG, if_pos hc, e2, h1, h2, e1, List.map_cons, and_true, List.cons.injEq]
        obtain ⟨r, hr⟩ := h
        obtain ⟨r2, hr2⟩ := metA_ext t (met ++ [c])
        have e3 : numC F c = -1 - ((met.length : Nat) : Int) := by
          unfold numC
          rw [if_pos hc, hr, hr2, List.append_assoc, List.idxOf_append, if_pos (by simp), List.idxOf_append, if_neg hm]
          simp
        rw [e3]
    · have e1 : metA met (c :: t) = metA met t := by conv => lhs; unfold metA; rw [if_pos (.inl (by omega))]
      rw [e1] at h
      obtain ⟨h1, h2⟩ := doc_ren t met F h
      have e3 : numC F c = c := by unfold numC; rw [if_neg hc]
      simp only [renG, if_neg hc, h1, h2, e1, e3, List.map_cons, and_true]

theorem can_two (p q : List Int) : canL [p, q] = [p.map (numC (metA [] (p ++ q))), q.map (numC (metA [] (p ++ q)))] := by
  rw [canL_doc]
  simp only [canD]
  obtain ⟨r, hr⟩ := metA_ext q (metA [] p)
  obtain ⟨h1, h2⟩ := doc_ren p [] (metA [] (p ++ q)) ⟨r, by rw [metA_app]; exact hr⟩
  rw [h2]
  obtain ⟨h3, _⟩ := doc_ren q (metA [] p) (metA [] (p ++ q)) ⟨[], by rw [metA_app, List.append_nil]⟩
  rw [h1, h3]

/-- What the document asks of two rows of one length. -/
structure Alike (x y V W : List Int) : Prop where
  codes : ∀ (i : Nat) (a b : Int), x[i]? = some a → y[i]? = some b → (0 ≤ a ∨ 0 ≤ b) → a = b
  many : V.length = W.length
  met : ∀ (i k : Nat) (a b v w : Int), x[i]? = some a → y[i]? = some b → V[k]? = some v → W[k]? = some w → (a = v ↔ b = w)

theorem idx_of {V : List Int} (h : V.Nodup) {k : Nat} {v : Int} (hk : V[k]? = some v) : V.idxOf v = k := by
  obtain ⟨h1, rfl⟩ := List.getElem?_eq_some_iff.1 hk
  exact h.idxOf_getElem k h1

theorem idx_get {V : List Int} {v : Int} (h : v ∈ V) : V[V.idxOf v]? = some v := by
  rw [List.getElem?_eq_getElem (List.idxOf_lt_length_of_mem h), List.getElem_idxOf]

theorem num_neg {F : List Int} {c : Int} : numC F c < 0 ↔ c < 0 := by
  unfold numC
  split <;> omega

theorem alike_le {x y : List Int} (h : x.map (numC (metA [] x)) = y.map (numC (metA [] y))) : (metA [] x).length ≤ (metA [] y).length := by
  by_cases h0 : (metA [] x).length = 0
  · omega
  · obtain ⟨k, hk⟩ : ∃ k, (metA [] x).length = k + 1 := ⟨(metA [] x).length - 1, by omega⟩
    obtain ⟨v, hv⟩ : ∃ v, (metA [] x)[k]? = some v := ⟨_, List.getElem?_eq_getElem (by omega)⟩
    have hm := List.mem_of_getElem? hv
    have hx := (metA_mem x [] v).1 hm
    simp at hx
    obtain ⟨i, hi⟩ := List.getElem?_of_mem hx.1
    have e1 : (y.map (numC (metA [] y)))[i]? = some (numC (metA [] x) v) := by rw [← h, List.getElem?_map, hi]; rfl
    rw [List.getElem?_map] at e1
    cases hy : y[i]? with
    | none => rw [hy] at e1; simp at e1
    | some b =>
      rw [hy] at e1
      simp at e1
      have hb : b < 0 := by
        have h1 : numC (metA [] y) b < 0 := by rw [e1]; exact num_neg.2 hx.2
        exact num_neg.1 h1
      unfold numC at e1
      rw [if_pos hb, if_pos hx.2, idx_of (met_once x [] (by simp)) hv] at e1
      have h2 := List.idxOf_lt_length_of_mem ((metA_mem y [] b).2 (.inr ⟨List.mem_of_getElem? hy, hb⟩))
      omega

theorem alike_iff {x y : List Int} (hl : x.length = y.length) : x.map (numC (metA [] x)) = y.map (numC (metA [] y)) ↔ Alike x y (metA [] x) (metA [] y) := by
  have nx := met_once x [] (by simp)
  have ny := met_once y [] (by simp)
  constructor
  · intro h
    have pt : ∀ (i : Nat) (a b : Int), x[i]? = some a → y[i]? = some b → numC (metA [] x) a = numC (metA [] y) b := fun i a b ha hb => by
      have h1 := congrArg (fun l => l[i]?) h
      simp only [List.getElem?_map, ha, hb, Option.map_some, Option.some.injEq] at h1
      exact h1
    refine ⟨fun i a b ha hb h0 => ?_, ?_, fun i k a b v w ha hb hv hw => ?_⟩
    · have h1 := pt i a b ha hb
      have h2 : ¬ a < 0 ∧ ¬ b < 0 := by
        have h3 : a < 0 ↔ b < 0 := ⟨fun h9 => num_neg.1 (h1 ▸ num_neg.2 h9), fun h9 => num_neg.1 (h1.symm ▸ num_neg.2 h9)⟩
        omega
      unfold numC at h1
      rwa [if_neg h2.1, if_neg h2.2] at h1
    · have h1 := alike_le h
      have h2 := alike_le h.symm
      omega
    · have h1 := pt i a b ha hb
      have h3 : a < 0 ↔ b < 0 := ⟨fun h9 => num_neg.1 (h1 ▸ num_neg.2 h9), fun h9 => num_neg.1 (h1.symm ▸ num_neg.2 h9)⟩
      have hv0 := metA_neg x [] (by simp) v (List.mem_of_getElem? hv)
      have hw0 := metA_neg y [] (by simp) w (List.mem_of_getElem? hw)
      by_cases h0 : a < 0
      · have hb0 := h3.1 h0
        unfold numC at h1
        rw [if_pos h0, if_pos hb0] at h1
        have i1 := idx_get ((metA_mem x [] a).2 (.inr ⟨List.mem_of_getElem? ha, h0⟩))
        have i2 := idx_get ((metA_mem y [] b).2 (.inr ⟨List.mem_of_getElem? hb, hb0⟩))
        constructor
        · rintro rfl
          have e1 := idx_of nx hv
          have e2 : (metA [] y).idxOf b = k := by omega
          rw [e2, hw] at i2
          exact (Option.some.inj i2).symm
        · rintro rfl
          have e1 := idx_of ny hw
          have e2 : (metA [] x).idxOf a = k := by omega
          rw [e2, hv] at i1
          exact (Option.some.inj i1).symm
      · constructor
        · rintro rfl; exact absurd hv0 h0
        · rintro rfl; exact absurd (h3.2 hw0) h0
  · intro h
    refine List.ext_getElem? fun i => ?_
    rw [List.getElem?_map, List.getElem?_map]
    by_cases hi : i < x.length
    · have ha : x[i]? = some x[i] := List.getElem?_eq_getElem hi
      have hb : y[i]? = some (y[i]'(by omega)) := List.getElem?_eq_getElem (by omega)
      generalize x[i] = a at ha
      generalize (y[i]'(by omega)) = b at hb
      rw [ha, hb]
      simp only [Option.map_some, Option.some.injEq]
      by_cases h0 : 0 ≤ a ∨ 0 ≤ b
      · have := h.codes i a b ha hb h0
        subst this
        unfold numC
        rw [if_neg (by omega), if_neg (by omega)]
      · have i1 := idx_get ((metA_mem x [] a).2 (.inr ⟨List.mem_of_getElem? ha, by omega⟩))
        have hk := (List.getElem?_eq_some_iff.1 i1).1
        have hw : (metA [] y)[(metA [] x).idxOf a]? = some ((metA [] y)[(metA [] x).idxOf a]'(by rw [← h.many]; exact hk)) := List.getElem?_eq_getElem _
        have h2 := (h.met i _ a b a _ ha hb i1 hw).1 rfl
        rw [← h2] at hw
        have h3 := idx_of ny hw
        unfold numC
        rw [if_pos (by omega), if_pos (by omega), h3]
    · rw [List.getElem?_eq_none (by omega), List.getElem?_eq_none (by omega)]
      rfl

theorem can_iff {p q r s : List Int} : canL [p, q] = canL [r, s] ↔ p.length = r.length ∧ q.length = s.length ∧ Alike (p ++ q) (r ++ s) (metA [] (p ++ q)) (metA [] (r ++ s)) := by
  rw [can_two, can_two]
  constructor
  · intro h
    simp only [List.cons.injEq, and_true] at h
    have h1 := congrArg List.length h.1
    have h2 := congrArg List.length h.2
    simp only [List.length_map] at h1 h2
    refine ⟨h1, h2, (alike_iff (by simp [h1, h2])).1 ?_⟩
    rw [List.map_append, List.map_append, h.1, h.2]
  · rintro ⟨h1, h2, h3⟩
    have h4 := (alike_iff (by simp [h1, h2])).2 h3
    rw [List.map_append, List.map_append] at h4
    obtain ⟨h5, h6⟩ := List.append_inj h4 (by simp [h1])
    rw [h5, h6]

end Go.Proofs.YtfeeafkfjngemaaDoor

/- Literal rows in memory. -/
namespace Go.Proofs.YtfeeafkfjngemaaDoor
open Go.RowKit Go.Maps Go.BigFrame

theorem is_new (w : World) (xs : List Int) (t : TypeId) (hz : ∀ x ∈ xs, -9223372036854775808 ≤ x ∧ x ≤ 9223372036854775807) (hl : xs.length ≤ 1000) : Is (w.alloc (.cells (xs.map I64).toArray t)) (.slice (some ⟨w.heap.size, 0, none⟩) xs.length xs.length) xs := by
  refine ⟨some ⟨w.heap.size, 0, none⟩, xs.length, rfl, Nat.le_refl _, by unfold maxLen; omega, fun _ => ⟨w.heap.size, 0, rfl, by simp, fun k x hk => ?_⟩⟩
  refine ⟨(hz x (List.mem_of_getElem? hk)).1, (hz x (List.mem_of_getElem? hk)).2, ?_⟩
  rw [Nat.mul_one, Nat.zero_add, cell_of_row _ _ _ _ _ _ (heap_alloc_new _ _)]
  simp [hk, I64]

/-- Binds one behind the other. -/
def EBs (w : World) (g : Nat) : Nat → List Bd → Prop
  | _, [] => True
  | o, b :: r => EB w g o b ∧ EBs w g (o + 2) r

theorem EBs.get {w : World} {g : Nat} : ∀ {p : List Bd} {o k : Nat} {m : Bd}, EBs w g o p → p[k]? = some m → EB w g (o + k * 2) m
  | [], _, _, _, _, h => by simp at h
  | x :: r, o, 0, m, h, hk => by
    simp at hk
    subst hk
    exact h.1
  | x :: r, o, k + 1, m, h, hk => by
    have := EBs.get h.2 (k := k) (by simpa using hk)
    rw [show o + (k + 1) * 2 = o + 2 + k * 2 by omega]
    exact this

theorem bs_lit {w : World} {g : Nat} {p : List Bd} (hg : g < w.heap.size) (hl : p.length ≤ 9) (h : EBs w g 0 p) : Bs w (.slice (some ⟨g, 0, none⟩) p.length p.length) p := by
  refine ⟨_, p.length, rfl, Nat.le_refl _, by unfold maxLen; omega, fun _ => ⟨g, 0, rfl, hg, fun k m hk => ?_⟩⟩
  have := h.get hk
  rwa [Nat.zero_add] at this ⊢

def ESs (w : World) (g : Nat) : Nat → List Sy → Prop
  | _, [] => True
  | o, b :: r => ES w g o b ∧ ESs w g (o + 2) r

theorem ESs.get {w : World} {g : Nat} : ∀ {p : List Sy} {o k : Nat} {m : Sy}, ESs w g o p → p[k]? = some m → ES w g (o + k * 2) m
  | [], _, _, _, _, h => by simp at h
  | x :: r, o, 0, m, h, hk => by
    simp at hk
    subst hk
    exact h.1
  | x :: r, o, k + 1, m, h, hk => by
    have := ESs.get h.2 (k := k) (by simpa using hk)
    rw [show o + (k + 1) * 2 = o + 2 + k * 2 by omega]
    exact this

theorem sg_lit {w : World} {g : Nat} {p : List Sy} (hg : g < w.heap.size) (hl : p.length ≤ 9) (h : ESs w g 0 p) : Sg w (.slice (some ⟨g, 0, none⟩) p.length p.length) p := by
  refine ⟨_, p.length, rfl, Nat.le_refl _, by unfold maxLen; omega, fun _ => ⟨g, 0, rfl, hg, fun k m hk => ?_⟩⟩
  have := h.get hk
  rwa [Nat.zero_add] at this ⊢

def ERs (w : World) (g : Nat) : Nat → List (List Int) → Prop
  | _, [] => True
  | o, b :: r => ER w g o b ∧ ERs w g (o + 1) r

theorem ERs.get {w : World} {g : Nat} : ∀ {p : List (List Int)} {o k : Nat} {m : List Int}, ERs w g o p → p[k]? = some m → ER w g (o + k * 1) m
  | [], _, _, _, _, h => by simp at h
  | x :: r, o, 0, m, h, hk => by
    simp at hk
    subst hk
    exact h.1
  | x :: r, o, k + 1, m, h, hk => by
    have := ERs.get h.2 (k := k) (by simpa using hk)
    rw [show o + (k + 1) * 1 = o + 1 + k * 1 by omega]
    exact this

theorem rs_lit {w : World} {g : Nat} {p : List (List Int)} (hg : g < w.heap.size) (hl : p.length ≤ 9) (h : ERs w g 0 p) : Rs w (.slice (some ⟨g, 0, none⟩) p.length p.length) p := by
  refine ⟨_, p.length, rfl, Nat.le_refl _, by unfold maxLen; omega, fun _ => ⟨g, 0, rfl, hg, fun k m hk => ?_⟩⟩
  have := h.get hk
  rwa [Nat.zero_add] at this ⊢

theorem cell_new {w : World} {t : TypeId} {vs : Array Value} {k : Nat} {v : Value} (hv : vs[k]? = some v) : (w.alloc (.cells vs t)).cell? ⟨w.heap.size, k, none⟩ = some v := by
  rw [cell_of_row _ _ _ _ _ _ (heap_alloc_new _ _)]
  simpa using hv

theorem cell_old {w : World} {o : Obj} {g k : Nat} {v : Value} (h : w.cell? ⟨g, k, none⟩ = some v) : (w.alloc o).cell? ⟨g, k, none⟩ = some v := (Kp.of_below (below_alloc o)).cell _ _ h

def sumS : List Sy := [(⟨#[122, 101, 114, 111]⟩, 0), (⟨#[115]⟩, 1), (⟨#[112, 108, 117, 115]⟩, 2)]

theorem applyE_1 : applyE sumS [(0, [1, -2]), (1, [0])] [2, -1, -2] = 0 := by kernel_rfl
theorem applyL_1 : applyL sumS [(0, [1, -2]), (1, [0])] [2, -1, -2] = [2, 1, -2, 0] := by kernel_rfl
theorem bindE_1 : bindE sumS [(2, [0]), (2, [0])] = 41 := by kernel_rfl
theorem bindE_2 : bindE sumS [(0, [1])] = 31 := by kernel_rfl
theorem shift_1 : shiftE 3 [2, -1, -2] = 0 := by kernel_rfl
theorem shift_2 : shiftL 3 [2, -1, -2] = [2, -4, -5] := by kernel_rfl
theorem shift_3 : shiftE (-3) [-3] = 40 := by kernel_rfl
theorem canon_1 : canL [[2, -7, -3], [-3, -9]] = [[2, -1, -2], [-2, -3]] := by kernel_rfl

end Go.Proofs.YtfeeafkfjngemaaDoor

/- hasFree of package system walked. -/
namespace Go.Proofs.YtfeeafkfjngemaaDoor
open Go.RowKit Go.Maps Go.BigFrame

set_option maxRecDepth 100000 in
set_option maxHeartbeats 800000 in
theorem freeClosure_any (x : Int) (c b : Nat) (L : List (Int × Value)) (w : World) (hc : w.cell? ⟨c, 0, none⟩ = some (.map (some b))) (hm : MapV w b L) (hu : ∀ n v, L.lookup n = some v → v = .agg #[]) (h1 : -9223372036854775808 ≤ x) (h2 : x ≤ 9223372036854775807) :
    Calls Tryd.prog 49 #[.int .i64 x, .pointer (some ⟨c, 0, none⟩)] w fun e w' => e = .returned (.bool (!(L.lookup x).isSome)) ∧ Below w.heap.size w w' := by
  have hlk := hm.look under_set (zero_unit w) h1 h2
  have hg : (L.lookup x).getD (.agg #[]) = .agg #[] := by
    cases hx : L.lookup x with
    | none => rfl
    | some v => exact hu x v hx
  rw [hg] at hlk
  have HLk := hid hlk
  clear hm hlk hg hu
  cases hl : (L.lookup x).isSome with
  | true =>
    rw [hl] at HLk
    go_enter Tryd.func49, Tryd.ntmps49
    go_wp2_with (first
      | (at_lookup; refine wpList_lookup_run rfl _ _ _ _ rfl _ _ _ rfl rfl HLk.out ?_))
    all_goals (go_ret; exact ⟨rfl, below_alloc _⟩)
  | false =>
    rw [hl] at HLk
    go_enter Tryd.func49, Tryd.ntmps49
    go_wp2_with (first
      | (at_lookup; refine wpList_lookup_run rfl _ _ _ _ rfl _ _ _ rfl rfl HLk.out ?_))
    all_goals (go_ret; exact ⟨rfl, below_alloc _⟩)

set_option maxRecDepth 100000 in
set_option maxHeartbeats 800000 in
theorem indexFree_any (vv : Value) (xs : List Int) (c b : Nat) (L : List (Int × Value)) (w : World) (hv : Is w vv xs) (hc : w.cell? ⟨c, 0, none⟩ = some (.map (some b))) (hm : MapV w b L) (hu : ∀ n v, L.lookup n = some v → v = .agg #[]) :
    Calls Tryd.prog 71 #[vv, .func (.func 49) #[] #[.pointer (some ⟨c, 0, none⟩)]] w fun e w' => ∃ n : Int, e = .returned (.int .i64 n) ∧ decide (0 ≤ n) = (xs.any fun x => !(L.lookup x).isSome) ∧ Below w.heap.size w w' := by
  obtain ⟨ao, cap, rfl, hao, hca, _⟩ := Row.flat hv
  unfold maxLen at hca
  have HV := hid hv
  have HC := hid hc
  have HM := hid hm
  have HU := hid hu
  clear hv hc hm hu
  go_enter Tryd.func71, Tryd.ntmps71
  go_wp2
  go_loopw [8] (fun i wr => ∃ k : Nat, k ≤ xs.length ∧ i = .int .i64 k ∧ (xs.take k).any (fun x => !(L.lookup x).isSome) = false ∧ Below w.heap.size w wr) (fun i _ => xs.length - (intOf i).toNat)
  case atStart => exact ⟨0, Nat.zero_le _, rfl, by simp, Below.refl _ _⟩
  case round =>
    obtain ⟨k, hk, rfl, hno, hbl⟩ := hrel
    have HNo := hid hno
    have HB := hid hbl
    clear hno
    by_cases hlt : k < xs.length
    · obtain ⟨g, off, x, rfl, hx1, hx2, hx3, hx4⟩ := (HV.out.kp (Kp.of_below hbl)).at hlt
      have HX := hid hx1
      clear hx1 hbl
      go_wp2_with fail
      refine (freeClosure_any x c b L wr ((Kp.of_below HB.out).cell _ _ HC.out) (HM.out.later HB.out) HU.out hx3 hx4).mono ?_
      rintro e w2 ⟨rfl, hb2⟩
      have HB2 := hid (below_step HB.out hb2)
      clear hb2 hx2
      cases hl : (L.lookup x).isSome with
      | false =>
        have HF : Hid ((xs.any fun x => !(L.lookup x).isSome) = true) := by
          show _ = _
          rw [List.any_eq_true]
          exact ⟨x, List.mem_of_getElem? HX.out, by rw [hl]; rfl⟩
        clear hl
        go_wp2
        go_ret
        exact ⟨_, rfl, by rw [HF.out]; simp, HB2.out⟩
      | true =>
        have HF : Hid ((xs.take (k + 1)).any (fun x => !(L.lookup x).isSome) = false) := by
          show _ = _
          rw [take_get HX.out, List.any_append, HNo.out]
          simp [hl]
        clear hl
        go_wp2
        go_roundw
        case rel => exact ⟨k + 1, by omega, by go_num, HF.out, HB2.out⟩
        case measure => simp only [intOf]; omega
    · have HF : Hid ((xs.any fun x => !(L.lookup x).isSome) = false) := by
        have h9 := HNo.out
        rw [List.take_of_length_le (by omega)] at h9
        exact h9
      go_wp2
      go_ret
      exact ⟨-1, rfl, by rw [HF.out]; rfl, HB.out⟩

set_option maxRecDepth 100000 in
theorem containsFree_any (vv : Value) (xs : List Int) (c b : Nat) (L : List (Int × Value)) (w : World) (hv : Is w vv xs) (hc : w.cell? ⟨c, 0, none⟩ = some (.map (some b))) (hm : MapV w b L) (hu : ∀ n v, L.lookup n = some v → v = .agg #[]) :
    Calls Tryd.prog 48 #[vv, .func (.func 49) #[] #[.pointer (some ⟨c, 0, none⟩)]] w fun e w' => e = .returned (.bool (xs.any fun x => !(L.lookup x).isSome)) ∧ Below w.heap.size w w' := by
  have HC := hid (indexFree_any vv xs c b L w hv hc hm hu)
  clear hv hc hm hu
  generalize (xs.any fun x => !(L.lookup x).isSome) = B at HC ⊢
  go_enter Tryd.func48, Tryd.ntmps48
  go_wp2_with fail
  refine HC.out.mono ?_
  rintro e w2 ⟨n, rfl, hn, hb2⟩
  have HN := hid hn
  clear hn
  go_wp2
  go_ret
  exact ⟨ret1b HN.out, hb2⟩

/-- Whether the right side has a variable that the left one has not. -/
def freeB (l r : List Int) : Bool := (varsL r).any fun x => !decide (x ∈ varsL l)

theorem varsL_len (t : List Int) : (varsL t).length ≤ t.length := by
  unfold varsL
  rw [List.length_map]
  have h : ∀ (t m : List Int), (metA m t).length ≤ m.length + t.length := fun t => by
    induction t with
    | nil => intro m; simp [metA]
    | cons c t ih =>
      intro m
      unfold metA
      split
      · have := ih m
        simp only [List.length_cons]
        omega
      · have := ih (m ++ [c])
        simp only [List.length_append, List.length_cons, List.length_nil] at this ⊢
        omega
  simpa using h t []

theorem vars_onceS (t : List Int) : (varsL t).Nodup := by
  unfold varsL
  refine List.Pairwise.map _ ?_ (met_once t [] (by simp))
  intro a b hab e
  omega

set_option maxRecDepth 100000 in
set_option maxHeartbeats 1600000 in
theorem hasFree_any (lv rv : Value) (l r : List Int) (w : World) (hl : Is w lv l) (hr : Is w rv r) (h1 : l.length * 8 ≤ 140737488351232) (h2 : r.length * 8 ≤ 140737488351232) :
    Calls Tryd.prog 28 #[.agg #[lv, rv]] w fun e w' => e = .returned (.bool (freeB l r)) ∧ Below w.heap.size w w' := by
  obtain ⟨a1, c1, e1, _⟩ := hl.flatI
  subst e1
  obtain ⟨a2, c2, e2, _⟩ := hr.flatI
  subst e2
  have HL := hid hl
  have HR := hid hr
  clear hl hr
  have hmm := @run_makeMap Tryd.prog
  obtain ⟨w0, hw0⟩ : ∃ X, X = ((w.alloc (.cells #[.slice a1 l.length c1, .slice a2 r.length c2] 37)).alloc (.map #[] 0)).alloc (.cells #[.map (some (w.heap.size + 1))] 70) := ⟨_, rfl⟩
  have hn1 : (w.alloc (.cells #[.slice a1 l.length c1, .slice a2 r.length c2] 37)).heap.size = w.heap.size + 1 := World.size_alloc _ _
  have hn2 : ((w.alloc (.cells #[.slice a1 l.length c1, .slice a2 r.length c2] 37)).alloc (.map #[] 0)).heap.size = w.heap.size + 1 + 1 := by rw [World.size_alloc, hn1]
  have C0 : Hid (Below w.heap.size w w0) := by rw [hw0]; exact below_step (below_step (below_alloc _) (below_alloc _)) (below_alloc _)
  have HM0 : Hid (MapV w0 (w.heap.size + 1) []) := by
    have h9 := (MapV.made (w.alloc (.cells #[.slice a1 l.length c1, .slice a2 r.length c2] 37))).later (below_alloc (.cells #[.map (some (w.heap.size + 1))] 70))
    rw [hn1, ← hw0] at h9
    exact h9
  have HCm : Hid (w0.cell? ⟨w.heap.size + 1 + 1, 0, none⟩ = some (.map (some (w.heap.size + 1)))) := by
    show _ = _
    rw [hw0, ← hn2]
    exact cell_new rfl
  have HC1 : Hid (w0.cell? ⟨w.heap.size, 1, none⟩ = some (.slice a2 r.length c2)) := by
    show _ = _
    rw [hw0]
    exact (Kp.of_below (below_step (below_alloc (.map #[] 0)) (below_alloc _))).cell _ _ (cell_new rfl)
  clear hn1 hn2
  go_enter Tryd.func28, Tryd.ntmps28
  go_wp2_with fail
  rw [← hw0]
  clear hw0
  refine (vars_any _ l w0 (HL.out.kp (Kp.of_below C0.out)) h1).mono ?_
  rintro e w1 ⟨v1, rfl, ho1, hb1⟩
  obtain ⟨vo, vc, hv1, hvc1, hvc2⟩ := ho1.shape
  subst hv1
  unfold maxLen at hvc2
  have C1 := hid (below_step C0.out hb1)
  have HM1 := hid (HM0.out.later hb1)
  have HCm1 := hid ((Kp.of_below hb1).cell _ _ HCm.out)
  have HC11 := hid ((Kp.of_below hb1).cell _ _ HC1.out)
  have HV1 := hid ho1.is
  have HOn := hid (vars_onceS l)
  have HMe : Hid (freeB l r = ((varsL r).any fun x => !decide (x ∈ varsL l))) := rfl
  have hvl : (varsL l).length ≤ 17592186043904 := by have := varsL_len l; omega
  clear ho1 hb1 HM0 HCm HC1 hmm
  generalize varsL l = V at HV1 HOn HMe hvl hvc1 ⊢
  go_wp2
  go_loopw [11] (fun iv wr => ∃ (k : Nat) (L : List (Int × Value)), k ≤ V.length ∧ L.length = k ∧ iv = .int .i64 k ∧ MapV wr (w.heap.size + 1) L ∧ (∀ n, (L.lookup n).isSome = decide (n ∈ V.take k)) ∧ (∀ n v, L.lookup n = some v → v = .agg #[]) ∧ Kp w1 wr ∧ Below w.heap.size w wr) (fun iv _ => V.length - (intOf iv).toNat)
  case atStart => exact ⟨0, [], Nat.zero_le _, rfl, rfl, HM1.out, fun n => (by simp), fun n v h => (by cases h), Kp.refl _, C1.out⟩
  case round =>
    obtain ⟨k, L, hk, hLk, rfl, hm, hlo, hu, hkp, hbl⟩ := hrel
    have HM := hid hm
    have HLo := hid hlo
    have HU := hid hu
    have HKp := hid hkp
    have HB := hid hbl
    have HLk := hid hLk
    have hcm := hkp.cell _ _ HCm1.out
    clear hm hlo hu hLk
    by_cases hlt : k < V.length
    · obtain ⟨g, off, x, rfl, hx1, hx2, hx3, hx4⟩ := (HV1.out.kp hkp).at hlt
      have hno : L.lookup x = none := by
        cases hq : L.lookup x with
        | none => rfl
        | some v =>
          have h9 := HLo.out x
          rw [hq] at h9
          have h8 : x ∈ V.take k := by simpa using h9.symm
          obtain ⟨j, hj⟩ := List.getElem?_of_mem h8
          have hjl := (List.getElem?_eq_some_iff.1 hj).1
          rw [List.length_take] at hjl
          rw [List.getElem?_take_of_lt (by omega)] at hj
          exfalso
          have h7 := (List.getElem_inj HOn.out (h₀ := (List.getElem?_eq_some_iff.1 hj).1) (h₁ := (List.getElem?_eq_some_iff.1 hx1).1)).1 (by rw [(List.getElem?_eq_some_iff.1 hj).2, (List.getElem?_eq_some_iff.1 hx1).2])
          omega
      obtain ⟨w4, hr4, hm4, hg4⟩ := HM.out.store under_set hx3 hx4 hno (by rw [HLk.out]; unfold maxLen; omega) (.agg #[])
      have HR4 := hid hr4
      have HM4 := hid hm4
      obtain ⟨es, clock, hes⟩ := HM.out.isMap
      have HK4 := hid (hkp.trans (Kp.of_map hg4 hes))
      have HB4 : Hid (Below w.heap.size w w4) := hbl.grown hg4 hbl.size (fun j hj => by cases hj; exact Nat.le_succ _)
      have HLo4 : Hid (∀ n, (List.lookup n ((x, Value.agg #[]) :: L)).isSome = decide (n ∈ V.take (k + 1))) := fun n => by
        rw [List.lookup_cons, take_get hx1]
        by_cases e : n = x
        · subst e
          simp
        · rw [show (n == x) = false by simpa using e]
          simp only [List.mem_append, List.mem_singleton, e, or_false]
          exact HLo.out n
      have HU4 : Hid (∀ n v, List.lookup n ((x, Value.agg #[]) :: L) = some v → v = .agg #[]) := fun n v hv => by
        rw [List.lookup_cons] at hv
        by_cases e : n = x
        · subst e
          simp at hv
          exact hv.symm
        · rw [show (n == x) = false by simpa using e] at hv
          exact HU.out n v hv
      clear hr4 hm4 hg4 hes hx1 hno hbl hkp
      go_wp2_with (first
        | (at_mapUpdate; refine wpList_mapUpdate_run rfl _ _ _ _ rfl _ _ _ rfl rfl rfl HR4.out ?_))
      go_roundw
      case rel => exact ⟨k + 1, _, hlt, by rw [List.length_cons, HLk.out], by go_num, HM4.out, HLo4.out, HU4.out, HK4.out, HB4.out⟩
      case measure => simp only [intOf]; omega
    · have hc1' := hkp.cell _ _ HC11.out
      have HLo2 : Hid (∀ n, (!(L.lookup n).isSome) = !decide (n ∈ V)) := fun n => by
        have h9 := HLo.out n
        rw [List.take_of_length_le (by omega)] at h9
        rw [h9]
      clear hbl hkp
      go_wp2_with fail
      refine (vars_any _ r wr (HR.out.kp (Kp.of_below HB.out)) h2).mono ?_
      rintro e w5 ⟨v5, rfl, ho5, hb5⟩
      have HV5 := hid ho5.is
      have HB5 := hid (below_step HB.out hb5)
      have HM5 := hid (HM.out.later hb5)
      have HC5 := hid ((Kp.of_below hb5).cell _ _ hcm)
      clear ho5 hb5 hcm hc1'
      go_wp2_with fail
      refine (containsFree_any _ (varsL r) _ _ L w5 HV5.out HC5.out HM5.out HU.out).mono ?_
      rintro e w6 ⟨rfl, hb6⟩
      have HB6 := hid (below_step HB5.out hb6)
      have HF : Hid (((varsL r).any fun x => !(L.lookup x).isSome) = freeB l r) := by
        show _ = _
        rw [HMe.out]
        congr 1
        funext x
        exact HLo2.out x
      rw [HF.out]
      clear hb6 HF
      go_wp2
      go_ret
      exact ⟨rfl, HB6.out⟩

end Go.Proofs.YtfeeafkfjngemaaDoor

/- Rows of trees: cloned, turned round. -/
namespace Go.Proofs.YtfeeafkfjngemaaDoor
open Go.RowKit Go.Maps

section
variable {P : Program} {w w' : World} {ops : Array Oper} {rest : List Oper} {o : Oper} {a : Act} {Q : Exit → Act → World → Prop}

theorem wpList_append_runT (hg : o.guard = none) (s x : Operand) (t : TypeId) (ho : o.op = .call { callee := .builtin .append, args := #[s, x], argTypes := #[t, t] }) (v u : Value) {v' : Value} (hs : a.eval s = v) (hx : a.eval x = u)
    (hr : (Builtin.append_ #[t, t] o.type #[v, u]).run P w = .ok v' w') (h : wpList P ops Q rest (a.put o.dst v') w') : wpList P ops Q (o :: rest) a w := by
  refine wpList_plain hg fun K' hK' => ?_
  unfold Oper.wp
  simp [execOp, ho, resolve, invoke, builtin, hs, hx, hr, Result.andThen]
  exact hK' _ _ h

end

/-- A slice that is read, by its values. -/
def RdV (w : World) (v : Value) (vals : List Value) : Prop :=
  (v = .slice none 0 0 ∧ vals = []) ∨ ∃ g off cap, v = .slice (some ⟨g, off, none⟩) vals.length cap ∧ ∀ (j : Nat) (u : Value), vals[j]? = some u → w.cell? ⟨g, off + j, none⟩ = some u

theorem drawn_below1 (w : World) : Below w.heap.size w w.drew := (Below.refl _ _).drew

theorem set_grownT (w : World) (g k : Nat) (u : Value) : w.grownBy (w.setCell ⟨g, k, none⟩ u) (some g) :=
  ⟨rfl, rfl, rfl, by simp [World.setCell], fun i _ hne => heap_setCell_other _ _ _ _ (by intro e; subst e; exact hne rfl)⟩

/-- A value of an interface. -/
def IfV (u : Value) : Prop := ∃ t x, u = .iface t x

theorem swp_mem {d : Array Value} {i j : Nat} (hi : i < d.size) (hj : j < d.size) {u : Value} (h : u ∈ (Sort.swp d i j).toList) : u ∈ d.toList := by
  unfold Sort.swp at h
  simp only [Array.toList_setIfInBounds] at h
  rcases List.mem_or_eq_of_mem_set h with h | h
  · rcases List.mem_or_eq_of_mem_set h with h | h
    · exact h
    · rw [h, getElem!_pos d j hj]; exact Array.getElem_mem_toList hj
  · rw [h, getElem!_pos d i hi]; exact Array.getElem_mem_toList hi

theorem swp_list {d : Array Value} {i j : Nat} (hi : i < d.size) (hj : j < d.size) : (Sort.swp d i j).toList = (d.toList.set i d[j]!).set j d[i]! := by
  unfold Sort.swp
  simp [getElem!_pos, hi, hj]

end Go.Proofs.YtfeeafkfjngemaaDoor
