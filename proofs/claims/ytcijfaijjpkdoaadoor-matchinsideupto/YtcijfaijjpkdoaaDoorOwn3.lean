/- Texts of the proof, one behind the other. -/
import Derived.Test.YtcijfaijjpkdoaaDoorOwn2
import Derived.Shelf.Abstract
import Derived.Test.YtcijfaijjpkdoaaDoorOwn1
import Derived.Sort.WalkB12
import Derived.Lib.SlicesMore
import Derived.Lib.Walk
import Derived.Deep.LoopGhost
import Derived.Deep.DeepAppendRoom
/- What Apply answers. -/
namespace Go.Proofs.YtcijfaijjpkdoaaDoor
open Go.RowKit Go.Maps

/-- What a variable becomes by binds. -/
def bnd (s : List Bd) (n : Int) : Option (List Int) := s.reverse.lookup n

theorem lookup_mem {α : Type} : ∀ {l : List (Int × α)} {n : Int} {x : α}, l.lookup n = some x → (n, x) ∈ l
  | (k, v) :: l, n, x, h => by
    rw [List.lookup_cons] at h
    cases hk : n == k with
    | true =>
      rw [hk] at h
      cases h
      rw [beq_iff_eq] at hk
      subst hk
      exact .head _
    | false =>
      rw [hk] at h
      exact .tail _ (lookup_mem h)

theorem bind_rise (sig : List Sy) : ∀ (s : List Bd) (p : Option Int), bindGo sig p s = 0 → (∀ y, p = some y → ∀ b ∈ s, y < b.1) ∧ s.Pairwise (fun a b => a.1 < b.1)
  | [], _, _ => ⟨fun _ _ b hb => (by cases hb), List.Pairwise.nil⟩
  | b :: r, p, h => by
    unfold bindGo at h
    split at h
    · split at h
      · cases h
      · rename_i hp
        split at h
        · obtain ⟨h1, h2⟩ := bind_rise sig r (some b.1) h
          have h1' := h1 b.1 rfl
          refine ⟨fun y hy c hc => ?_, List.Pairwise.cons h1' h2⟩
          subst hy
          have hyb : y < b.1 := by simpa using hp
          cases hc with
          | head => exact hyb
          | tail _ hc => have := h1' c hc; omega
        · rename_i he
          exact absurd h he
    · cases h

theorem bind_new {s : List Bd} (h : s.Pairwise (fun a b => a.1 < b.1)) {k : Nat} {x : Int} {t : List Int} (hk : s[k]? = some (x, t)) : (s.take k).reverse.lookup x = none := by
  cases hl : (s.take k).reverse.lookup x with
  | none => rfl
  | some u =>
    have hm := lookup_mem hl
    rw [List.mem_reverse] at hm
    obtain ⟨j, hj, he⟩ := List.getElem_of_mem hm
    rw [List.length_take] at hj
    have hkl : k < s.length := (List.getElem?_eq_some_iff.1 hk).1
    have h2 := List.pairwise_iff_getElem.1 h j k (by omega) hkl (by omega)
    rw [List.getElem_take] at he
    rw [he, (List.getElem?_eq_some_iff.1 hk).2] at h2
    simp at h2

theorem Bs.small {w : World} {v : Value} {s : List Bd} (h : Bs w v s) {b : Bd} (hb : b ∈ s) : b.2.length * 8 ≤ 140737488351232 := by
  obtain ⟨ao, cap, rfl, _, _, hx⟩ := Row.flat h
  obtain ⟨k, hk, rfl⟩ := List.getElem_of_mem hb
  obtain ⟨g, off, x, _, hm, _, _, h3, _⟩ := hx k hk
  rw [List.getElem?_eq_getElem hk] at hm
  cases hm
  exact h3

def applyE (sig : List Sy) (s : List Bd) (t : List Int) : Int := if bindE sig s = 0 then (if termE sig t = 0 then layE (bnd s) t else termE sig t) else bindE sig s
def applyL (sig : List Sy) (s : List Bd) (t : List Int) : List Int := if bindE sig s = 0 then (if termE sig t = 0 then layL (bnd s) t else []) else []

set_option maxRecDepth 100000 in
set_option maxHeartbeats 1600000 in
theorem apply_any (sv bv v : Value) (sig : List Sy) (s : List Bd) (t : List Int) (w : World) (hs : Sg w sv sig) (hB : Bs w bv s) (h : Is w v t) (hT : Tabs w) (hb : t.length * 8 ≤ 140737488351232) :
    Calls Tryd.prog 19 #[sv, bv, v] w fun e w' => ∃ v', e = .returned (.tuple #[v', .int .i64 (applyE sig s t)]) ∧ OwI w' w.heap.size v' (applyL sig s t) ∧ Below w.heap.size w w' := by
  have HS := hid hs
  have HBs := hid hB
  have HI := hid h
  have HT := hid hT
  clear hs hB h hT
  go_enter Tryd.func19, Tryd.ntmps19
  go_wp2_with fail
  refine (substCheck_any sv bv sig s w HS.out HBs.out HT.out).mono ?_
  rintro e w1 ⟨rfl, hb1⟩
  have HB1 := hid hb1
  clear hb1
  by_cases he : bindE sig s = 0
  · rw [he]
    go_wp2_with fail
    refine (check_any sv v sig t w1 (HS.out.kp (Kp.of_below HB1.out)) (HI.out.kp (Kp.of_below HB1.out)) (HT.out.below HB1.out) hb).mono ?_
    rintro e w2 ⟨rfl, hb2⟩
    have HB2 : Hid (Below w.heap.size w w2) := below_step HB1.out hb2
    clear hb2
    by_cases hte : termE sig t = 0
    · rw [hte]
      have HE : Hid (applyE sig s t = layE (bnd s) t) := by show _ = _; unfold applyE; rw [if_pos he, if_pos hte]
      have HL : Hid (applyL sig s t = layL (bnd s) t) := by show _ = _; unfold applyL; rw [if_pos he, if_pos hte]
      have HNew : Hid (∀ k x t, s[k]? = some (x, t) → (s.take k).reverse.lookup x = none) := fun k x t hk => bind_new (bind_rise sig s none (by
        unfold bindE at he
        split at he
        · exact he
        · rename_i h0; exact absurd he h0)).2 hk
      clear he hte
      go_wp2_with fail
      refine (boundTerms_any bv s w2 (HBs.out.kp (Kp.of_below HB2.out)) HNew.out).mono ?_
      rintro e w3 ⟨b, bx, L, rfl, hc, hm, hte, hb3⟩
      have HB3 : Hid (Below w.heap.size w w3) := below_step HB2.out hb3
      have HLay := hid (lay_any (bnd s) 72 (.pointer (some ⟨bx, 0, none⟩)) v t w3 (HI.out.kp (Kp.of_below HB3.out)) hb (fun n u hn => HBs.out.small (List.mem_reverse.1 (lookup_mem hn)))
        (fun n W h0 h1 hW => (bound_closure n b bx L W ((Kp.of_below hW).cell _ _ hc) (hm.later hW) (by omega) h1).mono (fun e w4 he => by
          obtain ⟨rfl, rfl⟩ := he
          obtain ⟨k1, k2⟩ := (hte.kp (Kp.of_below hW)).look n
          refine ⟨(L.lookup n).getD (.slice none 0 0), ?_, fun x hx => ?_, Below.refl _ _⟩
          · cases hbn : bnd s n with
            | none => rw [k2 hbn]; rfl
            | some x => obtain ⟨y, hy, _⟩ := k1 x hbn; rw [hy]; rfl
          · obtain ⟨y, hy, hi⟩ := k1 x hx
            rw [hy]
            exact hi))
        (enters_of Tryd.func72 (by kernel_rfl) rfl))
      clear hc hm hte hb3
      go_wp2_with fail
      refine HLay.out.mono ?_
      rintro e w4 ⟨v', rfl, ho, hb4⟩
      have HO : Hid (OwI w4 w.heap.size v' (layL (bnd s) t)) := ho.mono HB3.out.size
      have HB4 : Hid (Below w.heap.size w w4) := below_step HB3.out hb4
      clear ho hb4 HLay
      go_wp2
      go_ret2
      exact ⟨_, by rw [HE.out]; rfl, by rw [HL.out]; exact HO.out, HB4.out⟩
    · have HE : Hid (applyE sig s t = termE sig t) := by show _ = _; unfold applyE; rw [if_pos he, if_neg hte]
      have HL : Hid (applyL sig s t = []) := by show _ = _; unfold applyL; rw [if_pos he, if_neg hte]
      clear he
      generalize termE sig t = E at hte HE ⊢
      have heb : (E != 0) = true := by simpa using hte
      go_wp2
      go_ret2
      exact ⟨_, by rw [HE.out]; rfl, by rw [HL.out]; exact nilI _ _, HB2.out⟩
  · have HE : Hid (applyE sig s t = bindE sig s) := by show _ = _; unfold applyE; rw [if_neg he]
    have HL : Hid (applyL sig s t = []) := by show _ = _; unfold applyL; rw [if_neg he]
    generalize bindE sig s = E at he HE ⊢
    have heb : (E != 0) = true := by simpa using he
    go_wp2
    go_ret2
    exact ⟨_, by rw [HE.out]; rfl, by rw [HL.out]; exact nilI _ _, HB1.out⟩

end Go.Proofs.YtcijfaijjpkdoaaDoor

/- What Shift, and the document's Shift, answer. -/
namespace Go.Proofs.YtcijfaijjpkdoaaDoor
open Go.RowKit Go.Maps

def okShift (d : Int) (t : List Int) : Bool := t.all fun c => !decide (c < 0) || isVarB (-1 - c + d)
def shiftE (d : Int) (t : List Int) : Int := if okShift d t = true then 0 else 40
def shiftL (d : Int) (t : List Int) : List Int := if okShift d t = true then t.map (fun c => if c < 0 then c - d else c) else []

theorem mem_metA : ∀ {t m : List Int} {c : Int}, c ∈ metA m t ↔ c ∈ m ∨ (c ∈ t ∧ c < 0)
  | [], m, c => by simp [metA]
  | a :: t, m, c => by
    unfold metA
    split
    · rename_i h
      rw [mem_metA]
      constructor
      · rintro (h1 | ⟨h1, h2⟩)
        · exact .inl h1
        · exact .inr ⟨List.mem_cons_of_mem _ h1, h2⟩
      · rintro (h1 | ⟨h1, h2⟩)
        · exact .inl h1
        · rcases List.mem_cons.1 h1 with rfl | h1
          · rcases h with h | h
            · omega
            · exact .inl h
          · exact .inr ⟨h1, h2⟩
    · rename_i h
      rw [mem_metA]
      constructor
      · rintro (h1 | ⟨h1, h2⟩)
        · rcases List.mem_append.1 h1 with h1 | h1
          · exact .inl h1
          · simp at h1
            subst h1
            exact .inr ⟨by simp, by have := fun hh => h (.inl hh); omega⟩
        · exact .inr ⟨List.mem_cons_of_mem _ h1, h2⟩
      · rintro (h1 | ⟨h1, h2⟩)
        · exact .inl (List.mem_append.2 (.inl h1))
        · rcases List.mem_cons.1 h1 with rfl | h1
          · exact .inl (by simp)
          · exact .inr ⟨h1, h2⟩

theorem mem_varsL {t : List Int} {x : Int} : x ∈ varsL t ↔ ∃ c ∈ t, c < 0 ∧ x = -1 - c := by
  unfold varsL
  rw [List.mem_map]
  constructor
  · rintro ⟨c, hc, rfl⟩
    rcases mem_metA.1 hc with h | ⟨h, h2⟩
    · cases h
    · exact ⟨c, h, h2, rfl⟩
  · rintro ⟨c, hc, h2, rfl⟩
    exact ⟨c, mem_metA.2 (.inr ⟨hc, h2⟩), rfl⟩

theorem okShift_vars {d : Int} {t : List Int} : okShift d t = true ↔ ∀ x ∈ varsL t, isVarB (x + d) = true := by
  unfold okShift
  rw [List.all_eq_true]
  constructor
  · intro h x hx
    obtain ⟨c, hc, h2, rfl⟩ := mem_varsL.1 hx
    have := h c hc
    rw [decide_eq_true h2] at this
    simpa using this
  · intro h c hc
    by_cases h2 : c < 0
    · rw [decide_eq_true h2, h _ (mem_varsL.2 ⟨c, hc, h2, rfl⟩)]
      rfl
    · rw [decide_eq_false h2]
      rfl

theorem isVarB_iff {n : Int} : isVarB n = true ↔ 0 ≤ n ∧ n < 1048576 := by
  unfold isVarB
  rw [Bool.and_eq_true, decide_eq_true_eq, decide_eq_true_eq]

theorem isVar_wrap {x d : Int} (h1 : 0 ≤ x) (h2 : x ≤ 9223372036854775807) (h3 : -9223372036854775808 ≤ d) (h4 : d ≤ 9223372036854775807) : isVarB (wrap64 (x + d)) = isVarB (x + d) := by
  by_cases h : x + d ≤ 9223372036854775807
  · rw [IntWalk.wrap64_in _ ⟨by omega, h⟩]
  · have e : wrap64 (x + d) = x + d - 18446744073709551616 := by unfold wrap64; omega
    rw [e]
    have a : isVarB (x + d - 18446744073709551616) = false := by rw [Bool.eq_false_iff]; intro hh; have := isVarB_iff.1 hh; omega
    have b : isVarB (x + d) = false := by rw [Bool.eq_false_iff]; intro hh; have := isVarB_iff.1 hh; omega
    rw [a, b]

theorem renG_shift (d : Int) : ∀ t : List Int, (renG (fun (_ : Unit) n => (n + d, ())) () t).1 = t.map fun c => if c < 0 then c - d else c
  | [] => rfl
  | c :: t => by
    unfold renG
    by_cases h : c < 0
    · rw [if_pos h, List.map_cons, if_pos h, renG_shift d t]
      show (-1 - (-1 - c + d)) :: _ = _
      rw [show -1 - (-1 - c + d) = c - d by omega]
    · rw [if_neg h, List.map_cons, if_neg h, renG_shift d t]

end Go.Proofs.YtcijfaijjpkdoaaDoor

/- What Canon answers. -/
namespace Go.Proofs.YtcijfaijjpkdoaaDoor
open Go.RowKit Go.Maps

theorem under_numbers : Tryd.prog.underlying 133 = some (.map 3 3) := by kernel_rfl
theorem zero_int (w : World) : (zeroValue 3).run Tryd.prog w = .ok (.int .i64 0) w := by kernel_rfl

/-- The numbers met, the last one first, with what they became. -/
abbrev Met := List (Int × Int)
def metV (m : Met) : List (Int × Value) := m.map fun p => (p.1, .int .i64 p.2)
def numN (m : Met) (n : Int) : Int × Met := match m.lookup n with | some i => (i, m) | none => ((m.length : Int), (n, (m.length : Int)) :: m)

theorem metV_lookup (n : Int) : ∀ m : Met, (metV m).lookup n = (m.lookup n).map (Value.int .i64)
  | [] => rfl
  | (k, i) :: m => by
    show List.lookup n ((k, _) :: metV m) = _
    rw [List.lookup_cons, List.lookup_cons]
    cases n == k with
    | true => rfl
    | false => exact metV_lookup n m

/-- The closure of numbersAsMet. -/
def NumSt (b bx : Nat) (w : World) (m : Met) : Prop := w.cell? ⟨bx, 0, none⟩ = some (.map (some b)) ∧ MapV w b (metV m) ∧ m.length ≤ 9223372036854775806

set_option maxRecDepth 100000 in
set_option maxHeartbeats 800000 in
theorem number_closure (n : Int) (b bx : Nat) (m : Met) (w : World) (hc : w.cell? ⟨bx, 0, none⟩ = some (.map (some b))) (hm : MapV w b (metV m)) (hl : m.length < 9223372036854775806) (h1 : -9223372036854775808 ≤ n) (h2 : n ≤ 9223372036854775807) :
    Calls Tryd.prog 89 #[.int .i64 n, .pointer (some ⟨bx, 0, none⟩)] w fun e w' => e = .returned (.int .i64 (numN m n).1) ∧ w'.cell? ⟨bx, 0, none⟩ = some (.map (some b)) ∧ MapV w' b (metV (numN m n).2) ∧ w.grownBy w' (some b) := by
  have hlk := hm.look under_numbers (zero_int w) h1 h2
  rw [metV_lookup] at hlk
  have HM := hid hm
  have HCx := hid hc
  clear hm
  cases hn : m.lookup n with
  | some i =>
    have HN : Hid (numN m n = (i, m)) := by show _ = _; unfold numN; rw [hn]
    rw [hn] at hlk
    have HL : Hid ((Instr.lookup 133 (.map (some b)) (.int .i64 n) true).run Tryd.prog w = .ok (.tuple #[.int .i64 i, .bool true]) w) := hlk
    clear hlk hn
    go_enter Tryd.func89, Tryd.ntmps89
    go_wp2_with (first
      | (at_lookup; refine wpList_lookup_run rfl _ _ _ _ rfl _ _ _ rfl rfl HL.out ?_))
    go_ret
    exact ⟨by rw [HN.out]; rfl, HCx.out, by rw [HN.out]; exact HM.out, World.grownBy.refl _ _⟩
  | none =>
    have HN : Hid (numN m n = ((m.length : Int), (n, (m.length : Int)) :: m)) := by show _ = _; unfold numN; rw [hn]
    have hnone : (metV m).lookup n = none := by rw [metV_lookup, hn]; rfl
    rw [hn] at hlk
    have HL : Hid ((Instr.lookup 133 (.map (some b)) (.int .i64 n) true).run Tryd.prog w = .ok (.tuple #[.int .i64 0, .bool false]) w) := hlk
    have hml : (metV m).length = m.length := by simp [metV]
    have hlen := HM.out.len under_numbers 3
    rw [hml] at hlen
    obtain ⟨w4, hr4, hm4, hg4⟩ := HM.out.store under_numbers h1 h2 hnone (by rw [hml]; unfold maxLen; omega) (.int .i64 (m.length : Int))
    obtain ⟨es, ck, hes⟩ := HM.out.isMap
    have HR4 := hid hr4
    have HM4 : Hid (MapV w4 b (metV ((n, (m.length : Int)) :: m))) := hm4
    have HC4 : Hid (w4.cell? ⟨bx, 0, none⟩ = some (.map (some b))) := (Kp.of_map hg4 hes).cell _ _ hc
    have HG4 := hid hg4
    clear hlk hn hnone hr4 hm4 hg4 hes
    go_enter Tryd.func89, Tryd.ntmps89
    go_wp2_with (first
      | (at_lookup; refine wpList_lookup_run rfl _ _ _ _ rfl _ _ _ rfl rfl HL.out ?_)
      | (at_mapUpdate; refine wpList_mapUpdate_run rfl _ _ _ _ rfl _ _ _ rfl rfl rfl HR4.out ?_))
    go_ret
    exact ⟨by rw [HN.out]; rfl, HC4.out, by rw [HN.out]; exact HM4.out, HG4.out⟩

end Go.Proofs.YtcijfaijjpkdoaaDoor

/- What Canon answers. -/
namespace Go.Proofs.YtcijfaijjpkdoaaDoor
open Go.RowKit Go.Maps

theorem numbersAsMet_any (w : World) : Calls Tryd.prog 64 #[] w fun e w' => ∃ b bx, e = .returned (.func (.func 89) #[] #[.pointer (some ⟨bx, 0, none⟩)]) ∧ w'.cell? ⟨bx, 0, none⟩ = some (.map (some b)) ∧ MapV w' b [] ∧ w.heap.size ≤ b ∧ w.heap.size ≤ bx ∧ b ≠ bx ∧ Below w.heap.size w w' := by
  have hmm := @run_makeMap Tryd.prog
  go_enter Tryd.func64, Tryd.ntmps64
  go_wp2
  go_ret
  refine ⟨w.heap.size, w.heap.size + 1, rfl, by simp, (MapV.made w).later (below_alloc _), Nat.le_refl _, by omega, by omega, below_step (below_alloc _) (below_alloc _)⟩

def ER (w : World) (g o : Nat) (x : List Int) : Prop := x.length * 8 ≤ 140737488351232 ∧ ∃ u, w.cell? ⟨g, o, none⟩ = some u ∧ Is w u x
theorem ER.kp {w w' : World} (hk : Kp w w') (g o : Nat) (x : List Int) (h : ER w g o x) : ER w' g o x := by
  obtain ⟨h0, u, h1, h2⟩ := h
  exact ⟨h0, u, hk.cell _ _ h1, h2.kp hk⟩

/-- A list of rows. -/
def Rs (w : World) (v : Value) (l : List (List Int)) : Prop := Row ER 1 w v l
theorem Rs.kp {w w' : World} {v : Value} {l : List (List Int)} (h : Rs w v l) (hk : Kp w w') : Rs w' v l := Row.imp h hk.size (ER.kp hk)

theorem Rs.at {w : World} {ao : Option Addr} {n cap : Nat} {l : List (List Int)} (h : Rs w (.slice ao n cap) l) {k : Nat} (hk : k < l.length) :
    ∃ g off a t c, ao = some ⟨g, off, none⟩ ∧ l[k]? = some t ∧ w.cell? ⟨g, off + k, none⟩ = some (.slice a t.length c) ∧ Is w (.slice a t.length c) t ∧ t.length * 8 ≤ 140737488351232 := by
  obtain ⟨ao', cap', hv, _, _, hx⟩ := Row.flat h
  simp only [Value.slice.injEq] at hv
  obtain ⟨rfl, rfl, rfl⟩ := hv
  obtain ⟨g, off, t, rfl, hm, h3, v, h5, h6⟩ := hx k hk
  obtain ⟨a, c, rfl, _⟩ := Row.flat h6
  rw [Nat.mul_one] at h5
  exact ⟨g, off, a, t, c, rfl, hm, h5, h6, h3⟩

def canG : Met → List (List Int) → List (List Int)
  | _, [] => []
  | m, t :: l => (renG numN m t).1 :: canG (renG numN m t).2 l

def canL (l : List (List Int)) : List (List Int) := canG [] l

/-- Rows of one's own, by their values. -/
def OwR (w : World) (base : Nat) (vs : List Value) (l : List (List Int)) : Prop := vs.length = l.length ∧ ∀ (j : Nat) (u : Value) (x : List Int), vs[j]? = some u → l[j]? = some x → OwI w base u x

def NumOk (b bx : Nat) (w : World) (m : Met) : Prop := w.cell? ⟨bx, 0, none⟩ = some (.map (some b)) ∧ MapV w b (metV m) ∧ ∀ p ∈ m, 0 ≤ p.2 ∧ p.2 < (m.length : Int)

theorem numN_len (m : Met) (n : Int) : (numN m n).2.length ≤ m.length + 1 := by
  unfold numN
  split <;> simp

theorem numN_in {m : Met} {n : Int} (h : ∀ p ∈ m, 0 ≤ p.2 ∧ p.2 < (m.length : Int)) : (0 ≤ (numN m n).1 ∧ (numN m n).1 ≤ (m.length : Int)) ∧ ∀ p ∈ (numN m n).2, 0 ≤ p.2 ∧ p.2 < ((numN m n).2.length : Int) := by
  unfold numN
  split
  · rename_i i hi
    have := h _ (lookup_mem hi)
    exact ⟨by simp only at this ⊢; omega, h⟩
  · refine ⟨by simp only; omega, fun p hp => ?_⟩
    simp only [List.length_cons]
    cases hp with
    | head => simp only; omega
    | tail _ hp => have := h p hp; omega

theorem renumber_canon (b bx : Nat) (v : Value) (t : List Int) (m : Met) (w : World) (hb : b < w.heap.size) (hbx : bx < w.heap.size) (_hne : b ≠ bx) (hst : NumOk b bx w m) (h : Is w v t) (hlen : t.length * 8 ≤ 140737488351232) (hm : m.length ≤ 4611686018427387904) :
    Calls Tryd.prog 65 #[v, .func (.func 89) #[] #[.pointer (some ⟨bx, 0, none⟩)]] w fun e w' => ∃ v', e = .returned v' ∧ OwI w' w.heap.size v' (renG numN m t).1 ∧ NumOk b bx w' (renG numN m t).2 ∧ w.grownBy w' (some b) := by
  refine renumber_any (σ := Met) (NumOk b bx) numN (fun n => 0 ≤ n ∧ n ≤ 9223372036854775807) b 89 (.pointer (some ⟨bx, 0, none⟩)) v t m w List.length numN_len hb hst hlen ?_ ?_ ?_ ?_ ?_ (enters_of Tryd.func89 (by kernel_rfl) rfl)
  · rintro w1 w2 s r ⟨h1, h2, h3⟩ hg hr hj _
    refine ⟨?_, h2.kept hg hr, h3⟩
    have hx : some bx ≠ r := fun e => by
      have := hj bx e.symm
      omega
    rw [World.cell?_of_block (hg.block bx (World.block_lt_of_cell? _ _ h1) hx)]
    exact h1
  · intro w' hg
    obtain ⟨es, ck, hes⟩ := hst.2.1.isMap
    exact h.kp (Kp.of_map hg hes)
  · rintro n s w1 ⟨hn1, hn2⟩ ⟨h1, h2, h3⟩ hs
    refine (number_closure n b bx s w1 h1 h2 (by omega) (by omega) hn2).mono ?_
    rintro e w2 ⟨rfl, k1, k2, k3⟩
    exact ⟨rfl, ⟨k1, k2, (numN_in h3).2⟩, k3⟩
  · rintro s n w1 _ ⟨h1, h2, h3⟩ hs
    have := (numN_in (n := n) h3).1
    omega
  · intro c hc h0
    have hz : -9223372036854775808 ≤ c := by
      obtain ⟨ao, cap, rfl, _, _, hx⟩ := Row.flat h
      obtain ⟨k, hk, rfl⟩ := List.getElem_of_mem hc
      obtain ⟨_, _, y, _, hy, h1, _⟩ := hx k hk
      rw [List.getElem?_eq_getElem hk] at hy
      cases hy
      exact h1
    omega

theorem info_ints : (Tryd.prog.info? 23).map (fun i => (i.zero, i.size, i.bytes)) = some (some (.slice none 0 0), 1, 24) := by kernel_rfl
theorem under_rows : Tryd.prog.underlying 60 = some (.slice 23) := by kernel_rfl

theorem made_nilS (n : Nat) : (madeCells (Value.slice none 0 0).cells (n * 1)).toList = List.replicate n (.slice none 0 0) := by
  have : (Value.slice none 0 0).cells = #[Value.slice none 0 0] := rfl
  rw [this, toList_madeCells_one, Nat.mul_one]

theorem own_lt {w : World} {base g n c m : Nat} {e : TypeId} {s : Nat} {xs : List Value} (h : w.ownsRow base e s (.slice (some ⟨g, 0, none⟩) n c) m xs) : g < w.heap.size := by
  rcases h.2 with ⟨hv, _⟩ | ⟨g', cap, cur, hv, _, hg, _⟩
  · cases hv
  · cases hv
    exact (Array.getElem?_eq_some_iff.1 hg).1

theorem sum_take : ∀ (l : List (List Int)) (k : Nat), ((l.take k).map List.length).sum ≤ (l.map List.length).sum
  | [], k => by simp
  | a :: l, 0 => by simp
  | a :: l, k + 1 => by
    have := sum_take l k
    simp only [List.take_succ_cons, List.map_cons, List.sum_cons]
    omega

theorem renG_len : ∀ (t : List Int) (m : Met), (renG numN m t).2.length ≤ m.length + t.length
  | [], m => by simp [renG]
  | c :: t, m => by
    unfold renG
    split
    · have h1 := renG_len t (numN m (-1 - c)).2
      have h2 := numN_len m (-1 - c)
      simp only [List.length_cons]
      omega
    · have h1 := renG_len t m
      simp only [List.length_cons]
      omega

set_option maxRecDepth 100000 in
set_option maxHeartbeats 1600000 in
theorem canon_any (v : Value) (l : List (List Int)) (w : World) (h : Rs w v l) (hn : l.length * 24 ≤ 140737488351232) (hsum : (l.map List.length).sum ≤ 4611686018427387904) :
    Calls Tryd.prog 35 #[v] w fun e w' => ∃ v' vs, e = .returned v' ∧ w'.ownsRow w.heap.size 23 1 v' l.length vs ∧ OwR w' w.heap.size vs (canL l) ∧ Below w.heap.size w w' := by
  obtain ⟨i1, hi1, hy0, hy1, hy2⟩ := info_parts info_ints
  obtain ⟨ao, cap, rfl, hao, hca, q0⟩ := Row.flat h
  unfold maxLen at hca
  have HR := hid h
  clear h q0
  go_enter Tryd.func35, Tryd.ntmps35
  go_wp2_with fail
  refine (numbersAsMet_any w).mono ?_
  rintro e w1 ⟨b, bx, rfl, hbx, hmv, hb1, hb2, hb3, hbl⟩
  have HBx := hid hbx
  have HMv := hid hmv
  have HB1 := hid hbl
  clear hbx hmv hbl
  go_wp2_with (first
    | (at_make; refine wpList_make_full _ rfl _ _ 60 rfl w.heap.size 23 i1 (.slice none 0 0) 1 under_rows hi1 hy0 hy1 .i64 .i64 _ _ l.length rfl rfl (by omega) (by omega) (by rw [hy2]; omega) (by unfold maxLen; omega) HB1.out.size ?_; intro w0 hown0 hgrow0))
  have hbR : b < w1.heap.size := HMv.out.lt
  have hbxR : bx < w1.heap.size := World.block_lt_of_cell? _ _ HBx.out
  have hRw : w.heap.size ≤ w1.heap.size := HB1.out.size
  have hb0 : Below w1.heap.size w1 w0 := (Below.refl _ _).grown hgrow0 (Nat.le_refl _) (by intro k hk; cases hk)
  rw [made_nilS] at hown0
  have HO0 := hid hown0
  have HB0 : Hid (Below w.heap.size w w0) := below_step HB1.out hb0
  have HN0 : Hid (NumOk b bx w0 []) := ⟨(Kp.of_below hb0).cell _ _ HBx.out, HMv.out.later hb0, fun p hp => (by cases hp)⟩
  clear hown0 hgrow0 hb0
  obtain ⟨R, hR⟩ : ∃ R, R = w1.heap.size := ⟨_, rfl⟩
  rw [← hR] at hbR hbxR hRw HO0 ⊢
  clear hR HBx HMv
  go_loopw [13] (fun i wr => ∃ (k : Nat) (vs : List Value) (dn : List (List Int)) (m : Met), k ≤ l.length ∧ i = .int .i64 k ∧ dn.length = k ∧ canL l = dn ++ canG m (l.drop k) ∧ wr.ownsRow w.heap.size 23 1 (.slice (some ⟨R, 0, none⟩) l.length l.length) l.length (vs ++ List.replicate (l.length - k) (.slice none 0 0)) ∧ OwR wr w.heap.size vs dn ∧ NumOk b bx wr m ∧ m.length ≤ ((l.take k).map List.length).sum ∧ Below w.heap.size w wr) (fun i _ => l.length - (intOf i).toNat)
  case atStart => exact ⟨0, [], [], [], Nat.zero_le _, rfl, rfl, rfl, by simpa using HO0.out, ⟨rfl, fun j u x hj => (by simp at hj)⟩, HN0.out, by simp, HB0.out⟩
  case round =>
    obtain ⟨k, vs, dn, m, hk, rfl, hdn, hcan, how, howr, hnum, hml, hbl⟩ := hrel
    have HDn := hid hdn
    have HCan := hid hcan
    have HOw := hid how
    have HOwr := hid howr
    have HNum := hid hnum
    have HMl := hid hml
    have HB := hid hbl
    clear hdn hcan how howr hnum hml HO0 HB0 HN0
    by_cases hlt : k < l.length
    · obtain ⟨g, off, ra, t, rc, rfl, hm, hc0, hit, ht8⟩ := (HR.out.kp (Kp.of_below hbl)).at hlt
      have HIt := hid hit
      have hvl : vs.length = k := HOwr.out.1.trans HDn.out
      have hRlt : R < wr.heap.size := own_lt HOw.out
      have HSum : Hid (m.length ≤ 4611686018427387904 ∧ (m.length + t.length ≤ ((l.take (k + 1)).map List.length).sum)) := by
        have h1 := HMl.out
        have h2 := sum_take l k
        rw [List.take_add_one, hm]
        simp only [Option.toList, List.map_append, List.map_cons, List.map_nil, List.sum_append, List.sum_cons, List.sum_nil]
        exact ⟨by omega, by omega⟩
      have HDr : Hid (l.drop k = t :: l.drop (k + 1)) := drop_get hm
      clear hm hit
      go_wp2_with fail
      refine (renumber_canon b bx _ t m wr (by omega) (by omega) hb3 HNum.out HIt.out ht8 HSum.out.1).mono ?_
      rintro e w2 ⟨v', rfl, ho2, hn2, hg2⟩
      obtain ⟨es, ck, hes⟩ := HNum.out.2.1.isMap
      have hR2 : R ≠ b := by omega
      have ho : w2.ownsRow w.heap.size 23 1 (.slice (some ⟨R, 0, none⟩) l.length l.length) l.length (vs ++ List.replicate (l.length - k) (.slice none 0 0)) := HOw.out.kept hg2 (.inr (by simp [Value.ownBlock]; omega))
      have hc3 : w2.cell? ⟨R, k, none⟩ = some (.slice none 0 0) := by
        have := World.ownsRow.cellAt ho k (by omega)
        rw [this, List.getElem?_append_right (by omega), hvl, Nat.sub_self, List.getElem?_replicate, if_pos (by omega)]
      have hf3 : w2.frozen? ⟨R, k, none⟩ = false := World.ownsRow.frozenAt ho k
      have hst := (World.ownsRow.stored ho k v').1
      have hset : (vs ++ List.replicate (l.length - k) (Value.slice none 0 0)).set k v' = (vs ++ [v']) ++ List.replicate (l.length - (k + 1)) (Value.slice none 0 0) := by
        rw [show l.length - k = (l.length - (k + 1)) + 1 by omega, List.replicate_succ, set_midI _ _ _ _ _ hvl]
        simp
      rw [hset] at hst
      have HSt := hid hst
      have HOwr2 : Hid (OwR (w2.setCell ⟨R, k, none⟩ v') w.heap.size (vs ++ [v']) (dn ++ [(renG numN m t).1])) := by
        refine ⟨by rw [List.length_append, List.length_append, HOwr.out.1]; rfl, fun j u x hj hx => ?_⟩
        have hstep : ∀ {u x}, OwI w2 w.heap.size u x → OwI (w2.setCell ⟨R, k, none⟩ v') w.heap.size u x := fun {u x} hu => hu.kept (set_grown w2 R k v') (ownsRow_apart hu.2 ho (by decide))
        by_cases hjl : j < vs.length
        · rw [List.getElem?_append_left hjl] at hj
          rw [List.getElem?_append_left (by rw [← HOwr.out.1]; exact hjl)] at hx
          have hu := HOwr.out.2 j u x hj hx
          exact hstep (hu.kept hg2 (own_notMap hu.2 hes))
        · rw [List.getElem?_append_right (by omega)] at hj
          rw [List.getElem?_append_right (by rw [← HOwr.out.1]; omega), ← HOwr.out.1] at hx
          have hj0 : j - vs.length = 0 := by
            have := (List.getElem?_eq_some_iff.1 hj).1
            simp at this
            omega
          rw [hj0] at hj hx
          simp at hj hx
          subst hj
          subst hx
          exact hstep (ho2.mono HB.out.size)
      have HNum2 : Hid (NumOk b bx (w2.setCell ⟨R, k, none⟩ v') (renG numN m t).2) := by
        refine ⟨?_, hn2.2.1.kept (set_grown w2 R k v') (by simpa using hR2), hn2.2.2⟩
        have hx : some bx ≠ some R := by simp; omega
        rw [World.cell?_of_block ((set_grown w2 R k v').block bx (World.block_lt_of_cell? _ _ hn2.1) hx)]
        exact hn2.1
      have HB2 : Hid (Below w.heap.size w (w2.setCell ⟨R, k, none⟩ v')) := (HB.out.grown hg2 HB.out.size (fun j hj => by cases hj; exact hb1)).setCell (p := ⟨R, k, none⟩) hRw _
      have HMl2 : Hid ((renG numN m t).2.length ≤ ((l.take (k + 1)).map List.length).sum) := by
        have h1 := renG_len t m
        have h2 := HSum.out.2
        show _ ≤ _
        omega
      have HCan2 : Hid (canL l = (dn ++ [(renG numN m t).1]) ++ canG (renG numN m t).2 (l.drop (k + 1))) := by
        show _ = _
        rw [HCan.out, HDr.out, canG]
        simp
      obtain ⟨va, vc, rfl, _, _⟩ := ho2.shape
      clear ho2 hn2 hg2 hst hset hes ho
      go_wp2
      go_roundw
      case rel => exact ⟨k + 1, vs ++ [_], dn ++ [(renG numN m t).1], (renG numN m t).2, by omega, by go_num, by rw [List.length_append, HDn.out]; rfl, HCan2.out, HSt.out, HOwr2.out, HNum2.out, HMl2.out, HB2.out⟩
      case measure => simp [intOf]; omega
    · have hke : k = l.length := by omega
      have HF : Hid (canL l = dn) := by
        show _ = _
        rw [HCan.out, List.drop_of_length_le (by omega)]
        simp [canG]
      have HO : Hid (wr.ownsRow w.heap.size 23 1 (.slice (some ⟨R, 0, none⟩) l.length l.length) l.length vs) := by
        have := HOw.out
        rw [show l.length - k = 0 by omega, List.replicate_zero, List.append_nil] at this
        exact this
      go_wp2
      go_ret
      exact ⟨_, vs, rfl, HO.out, by rw [HF.out]; exact HOwr.out, HB.out⟩

end Go.Proofs.YtcijfaijjpkdoaaDoor

/- Literal rows in memory. -/
namespace Go.Proofs.YtcijfaijjpkdoaaDoor
open Go.RowKit Go.Maps Go.BigFrame

theorem is_new (w : World) (xs : List Int) (t : TypeId) (hz : ∀ x ∈ xs, -9223372036854775808 ≤ x ∧ x ≤ 9223372036854775807) (hl : xs.length ≤ 1000) : Is (w.alloc (.cells (xs.map I64).toArray t)) (.slice (some ⟨w.heap.size, 0, none⟩) xs.length xs.length) xs := by
  refine ⟨some ⟨w.heap.size, 0, none⟩, xs.length, rfl, Nat.le_refl _, by unfold maxLen; omega, fun _ => ⟨w.heap.size, 0, rfl, by simp, fun k x hk => ?_⟩⟩
  refine ⟨(hz x (List.mem_of_getElem? hk)).1, (hz x (List.mem_of_getElem? hk)).2, ?_⟩
  rw [Nat.mul_one, Nat.zero_add, cell_of_row _ _ _ _ _ _ (heap_alloc_new _ _)]
  simp [hk, I64]

/-- Binds one behind the other. -/
def EBs (w : World) (g : Nat) : Nat → List Bd → Prop
  | _, [] => True
  | o, b :: r => EB w g o b ∧ EBs w g (o + 2) r

theorem EBs.get {w : World} {g : Nat} : ∀ {p : List Bd} {o k : Nat} {m : Bd}, EBs w g o p → p[k]? = some m → EB w g (o + k * 2) m
  | [], _, _, _, _, h => by simp at h
  | x :: r, o, 0, m, h, hk => by
    simp at hk
    subst hk
    exact h.1
  | x :: r, o, k + 1, m, h, hk => by
    have := EBs.get h.2 (k := k) (by simpa using hk)
    rw [show o + (k + 1) * 2 = o + 2 + k * 2 by omega]
    exact this

theorem bs_lit {w : World} {g : Nat} {p : List Bd} (hg : g < w.heap.size) (hl : p.length ≤ 9) (h : EBs w g 0 p) : Bs w (.slice (some ⟨g, 0, none⟩) p.length p.length) p := by
  refine ⟨_, p.length, rfl, Nat.le_refl _, by unfold maxLen; omega, fun _ => ⟨g, 0, rfl, hg, fun k m hk => ?_⟩⟩
  have := h.get hk
  rwa [Nat.zero_add] at this ⊢

def ESs (w : World) (g : Nat) : Nat → List Sy → Prop
  | _, [] => True
  | o, b :: r => ES w g o b ∧ ESs w g (o + 2) r

theorem ESs.get {w : World} {g : Nat} : ∀ {p : List Sy} {o k : Nat} {m : Sy}, ESs w g o p → p[k]? = some m → ES w g (o + k * 2) m
  | [], _, _, _, _, h => by simp at h
  | x :: r, o, 0, m, h, hk => by
    simp at hk
    subst hk
    exact h.1
  | x :: r, o, k + 1, m, h, hk => by
    have := ESs.get h.2 (k := k) (by simpa using hk)
    rw [show o + (k + 1) * 2 = o + 2 + k * 2 by omega]
    exact this

theorem sg_lit {w : World} {g : Nat} {p : List Sy} (hg : g < w.heap.size) (hl : p.length ≤ 9) (h : ESs w g 0 p) : Sg w (.slice (some ⟨g, 0, none⟩) p.length p.length) p := by
  refine ⟨_, p.length, rfl, Nat.le_refl _, by unfold maxLen; omega, fun _ => ⟨g, 0, rfl, hg, fun k m hk => ?_⟩⟩
  have := h.get hk
  rwa [Nat.zero_add] at this ⊢

def ERs (w : World) (g : Nat) : Nat → List (List Int) → Prop
  | _, [] => True
  | o, b :: r => ER w g o b ∧ ERs w g (o + 1) r

theorem ERs.get {w : World} {g : Nat} : ∀ {p : List (List Int)} {o k : Nat} {m : List Int}, ERs w g o p → p[k]? = some m → ER w g (o + k * 1) m
  | [], _, _, _, _, h => by simp at h
  | x :: r, o, 0, m, h, hk => by
    simp at hk
    subst hk
    exact h.1
  | x :: r, o, k + 1, m, h, hk => by
    have := ERs.get h.2 (k := k) (by simpa using hk)
    rw [show o + (k + 1) * 1 = o + 1 + k * 1 by omega]
    exact this

theorem rs_lit {w : World} {g : Nat} {p : List (List Int)} (hg : g < w.heap.size) (hl : p.length ≤ 9) (h : ERs w g 0 p) : Rs w (.slice (some ⟨g, 0, none⟩) p.length p.length) p := by
  refine ⟨_, p.length, rfl, Nat.le_refl _, by unfold maxLen; omega, fun _ => ⟨g, 0, rfl, hg, fun k m hk => ?_⟩⟩
  have := h.get hk
  rwa [Nat.zero_add] at this ⊢

theorem cell_new {w : World} {t : TypeId} {vs : Array Value} {k : Nat} {v : Value} (hv : vs[k]? = some v) : (w.alloc (.cells vs t)).cell? ⟨w.heap.size, k, none⟩ = some v := by
  rw [cell_of_row _ _ _ _ _ _ (heap_alloc_new _ _)]
  simpa using hv

theorem cell_old {w : World} {o : Obj} {g k : Nat} {v : Value} (h : w.cell? ⟨g, k, none⟩ = some v) : (w.alloc o).cell? ⟨g, k, none⟩ = some v := (Kp.of_below (below_alloc o)).cell _ _ h

def sumS : List Sy := [(⟨#[122, 101, 114, 111]⟩, 0), (⟨#[115]⟩, 1), (⟨#[112, 108, 117, 115]⟩, 2)]

theorem applyE_1 : applyE sumS [(0, [1, -2]), (1, [0])] [2, -1, -2] = 0 := by kernel_rfl
theorem applyL_1 : applyL sumS [(0, [1, -2]), (1, [0])] [2, -1, -2] = [2, 1, -2, 0] := by kernel_rfl
theorem bindE_1 : bindE sumS [(2, [0]), (2, [0])] = 41 := by kernel_rfl
theorem bindE_2 : bindE sumS [(0, [1])] = 31 := by kernel_rfl
theorem shift_1 : shiftE 3 [2, -1, -2] = 0 := by kernel_rfl
theorem shift_2 : shiftL 3 [2, -1, -2] = [2, -4, -5] := by kernel_rfl
theorem shift_3 : shiftE (-3) [-3] = 40 := by kernel_rfl
theorem canon_1 : canL [[2, -7, -3], [-3, -9]] = [[2, -1, -2], [-2, -3]] := by kernel_rfl

end Go.Proofs.YtcijfaijjpkdoaaDoor

/- The calls of the examples. -/
namespace Go.Proofs.YtcijfaijjpkdoaaDoor
open Go.RowKit Go.Maps Go.BigFrame

theorem b0 {w : World} : Below w.heap.size w w := Below.refl _ _
theorem b1 {w w' : World} {o : Obj} (h : Below w.heap.size w w') : Below w.heap.size w (w'.alloc o) := below_step h (below_alloc o)

def EIs (w : World) (g : Nat) : Nat → List Int → Prop
  | _, [] => True
  | o, x :: r => EI w g o x ∧ EIs w g (o + 1) r

theorem EIs.get {w : World} {g : Nat} : ∀ {p : List Int} {o k : Nat} {m : Int}, EIs w g o p → p[k]? = some m → EI w g (o + k * 1) m
  | [], _, _, _, _, h => by simp at h
  | x :: r, o, 0, m, h, hk => by
    simp at hk
    subst hk
    exact h.1
  | x :: r, o, k + 1, m, h, hk => by
    have := EIs.get h.2 (k := k) (by simpa using hk)
    rw [show o + (k + 1) * 1 = o + 1 + k * 1 by omega]
    exact this

theorem is_lit {w : World} {g : Nat} {p : List Int} (hg : g < w.heap.size) (hl : p.length ≤ 9) (h : EIs w g 0 p) : Is w (.slice (some ⟨g, 0, none⟩) p.length p.length) p := by
  refine ⟨_, p.length, rfl, Nat.le_refl _, by unfold maxLen; omega, fun _ => ⟨g, 0, rfl, hg, fun k m hk => ?_⟩⟩
  have := h.get hk
  rwa [Nat.zero_add] at this ⊢

theorem cell_newg {w : World} {t : TypeId} {vs : Array Value} {g k : Nat} {v : Value} (hg : g = w.heap.size) (hv : vs[k]? = some v) : (w.alloc (.cells vs t)).cell? ⟨g, k, none⟩ = some v := by
  subst hg
  exact cell_new hv

theorem ei {w : World} {g o : Nat} {x : Int} (h1 : -9223372036854775808 ≤ x) (h2 : x ≤ 9223372036854775807) (h : w.cell? ⟨g, o, none⟩ = some (.int .i64 x)) : EI w g o x := ⟨h1, h2, h⟩

theorem w_apply (w : World) : ∀ W, W = ((((w.alloc (Obj.cells #[Value.int IntKind.i64 1, Value.int IntKind.i64 (-2)] 3)).alloc (Obj.cells #[Value.int IntKind.i64 0] 3)).alloc (Obj.cells #[Value.int IntKind.i64 0, Value.slice (some ⟨w.heap.size, 0, none⟩) 2 2, Value.int IntKind.i64 1, Value.slice (some ⟨w.heap.size + 1, 0, none⟩) 1 1] 30)).alloc (Obj.cells #[Value.int IntKind.i64 2, Value.int IntKind.i64 (-1), Value.int IntKind.i64 (-2)] 3)) →
    Is W (.slice (some ⟨w.heap.size + 1 + 1 + 1, 0, none⟩) 3 3) [2, -1, -2] ∧ Bs W (.slice (some ⟨w.heap.size + 1 + 1, 0, none⟩) 2 2) [(0, [1, -2]), (1, [0])] ∧ Below w.heap.size w W := by
  intro W hW
  have hsz : W.heap.size = w.heap.size + 4 := by rw [hW]; simp
  have i1 : Is W (.slice (some ⟨w.heap.size, 0, none⟩) 2 2) [1, -2] := by
    refine is_lit (p := [1, -2]) (by omega) (by decide) ⟨ei (by omega) (by omega) ?_, ei (by omega) (by omega) ?_, trivial⟩ <;> (rw [hW]; repeat (first | (refine cell_newg ?_ rfl; simp; done) | refine cell_old ?_))
  have i2 : Is W (.slice (some ⟨w.heap.size + 1, 0, none⟩) 1 1) [0] := by
    refine is_lit (p := [0]) (by omega) (by decide) ⟨ei (by omega) (by omega) ?_, trivial⟩ <;> (rw [hW]; repeat (first | (refine cell_newg ?_ rfl; simp; done) | refine cell_old ?_))
  refine ⟨?_, ?_, by rw [hW]; exact b1 (b1 (b1 (b1 b0)))⟩
  · refine is_lit (p := [2, -1, -2]) (by omega) (by decide) ⟨ei (by omega) (by omega) ?_, ei (by omega) (by omega) ?_, ei (by omega) (by omega) ?_, trivial⟩ <;> (rw [hW]; repeat (first | (refine cell_newg ?_ rfl; simp; done) | refine cell_old ?_))
  · refine bs_lit (p := [(0, [1, -2]), (1, [0])]) (by omega) (by decide) ⟨⟨by decide, by decide, by decide, ?_, _, ?_, i1⟩, ⟨by decide, by decide, by decide, ?_, _, ?_, i2⟩, trivial⟩ <;> (rw [hW]; repeat (first | (refine cell_newg ?_ rfl; simp; done) | refine cell_old ?_))

end Go.Proofs.YtcijfaijjpkdoaaDoor

/- The calls of the examples, one by one. -/
namespace Go.Proofs.YtcijfaijjpkdoaaDoor
open Go.RowKit Go.Maps Go.BigFrame

theorem call_apply (w : World) (v1 : Value) (hs : Sg w v1 sumS) (hT : Tabs w) :
    Calls Tryd.prog 19 #[v1, .slice (some ⟨w.heap.size + 1 + 1, 0, none⟩) 2 2, .slice (some ⟨w.heap.size + 1 + 1 + 1, 0, none⟩) 3 3]
      ((((w.alloc (Obj.cells #[Value.int IntKind.i64 1, Value.int IntKind.i64 (-2)] 3)).alloc (Obj.cells #[Value.int IntKind.i64 0] 3)).alloc (Obj.cells #[Value.int IntKind.i64 0, Value.slice (some ⟨w.heap.size, 0, none⟩) 2 2, Value.int IntKind.i64 1, Value.slice (some ⟨w.heap.size + 1, 0, none⟩) 1 1] 30)).alloc (Obj.cells #[Value.int IntKind.i64 2, Value.int IntKind.i64 (-1), Value.int IntKind.i64 (-2)] 3))
      fun e w' => ∃ v', e = .returned (.tuple #[v', .int .i64 0]) ∧ Is w' v' [2, 1, -2, 0] ∧ Below w.heap.size w w' := by
  obtain ⟨W, hW⟩ : ∃ W, W = ((((w.alloc (Obj.cells #[Value.int IntKind.i64 1, Value.int IntKind.i64 (-2)] 3)).alloc (Obj.cells #[Value.int IntKind.i64 0] 3)).alloc (Obj.cells #[Value.int IntKind.i64 0, Value.slice (some ⟨w.heap.size, 0, none⟩) 2 2, Value.int IntKind.i64 1, Value.slice (some ⟨w.heap.size + 1, 0, none⟩) 1 1] 30)).alloc (Obj.cells #[Value.int IntKind.i64 2, Value.int IntKind.i64 (-1), Value.int IntKind.i64 (-2)] 3)) := ⟨_, rfl⟩
  obtain ⟨h1, h2, h3⟩ := w_apply w W hW
  rw [← hW]
  refine (apply_any v1 _ _ sumS [(0, [1, -2]), (1, [0])] [2, -1, -2] W (hs.kp (Kp.of_below h3)) h2 h1 (hT.below h3) (by decide)).mono ?_
  rintro e w' ⟨v', rfl, ho, hb⟩
  rw [applyE_1]
  rw [applyL_1] at ho
  exact ⟨v', rfl, ho.is, below_step h3 hb⟩

theorem call_canon (w : World) :
    Calls Tryd.prog 35 #[.slice (some ⟨w.heap.size + 1 + 1, 0, none⟩) 2 2]
      (((w.alloc (Obj.cells #[Value.int IntKind.i64 2, Value.int IntKind.i64 (-7), Value.int IntKind.i64 (-3)] 3)).alloc (Obj.cells #[Value.int IntKind.i64 (-3), Value.int IntKind.i64 (-9)] 3)).alloc (Obj.cells #[Value.slice (some ⟨w.heap.size, 0, none⟩) 3 3, Value.slice (some ⟨w.heap.size + 1, 0, none⟩) 2 2] 23))
      fun e w' => ∃ g cap u1 u2, e = .returned (.slice (some ⟨g, 0, none⟩) 2 cap) ∧ w'.cell? ⟨g, 0, none⟩ = some u1 ∧ w'.cell? ⟨g, 1, none⟩ = some u2 ∧ Is w' u1 [2, -1, -2] ∧ Is w' u2 [-2, -3] ∧ 2 ≤ cap ∧ cap ≤ 9223372036854775807 ∧ Below w.heap.size w w' := by
  obtain ⟨W, hW⟩ : ∃ W, W = (((w.alloc (Obj.cells #[Value.int IntKind.i64 2, Value.int IntKind.i64 (-7), Value.int IntKind.i64 (-3)] 3)).alloc (Obj.cells #[Value.int IntKind.i64 (-3), Value.int IntKind.i64 (-9)] 3)).alloc (Obj.cells #[Value.slice (some ⟨w.heap.size, 0, none⟩) 3 3, Value.slice (some ⟨w.heap.size + 1, 0, none⟩) 2 2] 23)) := ⟨_, rfl⟩
  have hsz : W.heap.size = w.heap.size + 3 := by rw [hW]; simp
  have h3 : Below w.heap.size w W := by rw [hW]; exact b1 (b1 (b1 b0))
  have i1 : Is W (.slice (some ⟨w.heap.size, 0, none⟩) 3 3) [2, -7, -3] := by
    refine is_lit (p := [2, -7, -3]) (by omega) (by decide) ⟨ei (by omega) (by omega) ?_, ei (by omega) (by omega) ?_, ei (by omega) (by omega) ?_, trivial⟩ <;> (rw [hW]; repeat (first | (refine cell_newg ?_ rfl; simp; done) | refine cell_old ?_))
  have i2 : Is W (.slice (some ⟨w.heap.size + 1, 0, none⟩) 2 2) [-3, -9] := by
    refine is_lit (p := [-3, -9]) (by omega) (by decide) ⟨ei (by omega) (by omega) ?_, ei (by omega) (by omega) ?_, trivial⟩ <;> (rw [hW]; repeat (first | (refine cell_newg ?_ rfl; simp; done) | refine cell_old ?_))
  have i3 : Rs W (.slice (some ⟨w.heap.size + 1 + 1, 0, none⟩) 2 2) [[2, -7, -3], [-3, -9]] := by
    refine rs_lit (p := [[2, -7, -3], [-3, -9]]) (by omega) (by decide) ⟨⟨by decide, _, ?_, i1⟩, ⟨by decide, _, ?_, i2⟩, trivial⟩ <;> (rw [hW]; repeat (first | (refine cell_newg ?_ rfl; simp; done) | refine cell_old ?_))
  rw [← hW]
  refine (canon_any _ [[2, -7, -3], [-3, -9]] W i3 (by decide) (by decide)).mono ?_
  rintro e w' ⟨v', vs, rfl, ho, hr, hb⟩
  rw [canon_1] at hr
  obtain ⟨g, cap, rfl⟩ := own_form ho (by decide)
  obtain ⟨u1, u2, rfl⟩ : ∃ u1 u2, vs = [u1, u2] := by
    have := hr.1
    match vs, this with
    | [a, b], _ => exact ⟨a, b, rfl⟩
  have hcap : 2 ≤ cap ∧ cap ≤ 9223372036854775807 := by
    rcases ho.2 with ⟨hv, _⟩ | ⟨g', cap', cur, hv, _, _, hc, hm, _⟩
    · cases hv
    · cases hv
      unfold maxLen at hm
      exact ⟨hc, by omega⟩
  exact ⟨g, cap, u1, u2, rfl, World.ownsRow.cellAt ho 0 (by decide), World.ownsRow.cellAt ho 1 (by decide), (hr.2 0 u1 _ rfl rfl).is, (hr.2 1 u2 _ rfl rfl).is, hcap.1, hcap.2, below_step h3 hb⟩

theorem call_check1 (w : World) (v1 : Value) (hs : Sg w v1 sumS) (hT : Tabs w) :
    Calls Tryd.prog 41 #[v1, .slice (some ⟨w.heap.size + 1 + 1, 0, none⟩) 2 2]
      (((w.alloc (Obj.cells #[Value.int IntKind.i64 0] 3)).alloc (Obj.cells #[Value.int IntKind.i64 0] 3)).alloc (Obj.cells #[Value.int IntKind.i64 2, Value.slice (some ⟨w.heap.size, 0, none⟩) 1 1, Value.int IntKind.i64 2, Value.slice (some ⟨w.heap.size + 1, 0, none⟩) 1 1] 30))
      fun e w' => e = .returned (.int .i64 41) ∧ Below w.heap.size w w' := by
  obtain ⟨W, hW⟩ : ∃ W, W = (((w.alloc (Obj.cells #[Value.int IntKind.i64 0] 3)).alloc (Obj.cells #[Value.int IntKind.i64 0] 3)).alloc (Obj.cells #[Value.int IntKind.i64 2, Value.slice (some ⟨w.heap.size, 0, none⟩) 1 1, Value.int IntKind.i64 2, Value.slice (some ⟨w.heap.size + 1, 0, none⟩) 1 1] 30)) := ⟨_, rfl⟩
  have hsz : W.heap.size = w.heap.size + 3 := by rw [hW]; simp
  have h3 : Below w.heap.size w W := by rw [hW]; exact b1 (b1 (b1 b0))
  have i1 : Is W (.slice (some ⟨w.heap.size, 0, none⟩) 1 1) [0] := by
    refine is_lit (p := [0]) (by omega) (by decide) ⟨ei (by omega) (by omega) ?_, trivial⟩ <;> (rw [hW]; repeat (first | (refine cell_newg ?_ rfl; simp; done) | refine cell_old ?_))
  have i2 : Is W (.slice (some ⟨w.heap.size + 1, 0, none⟩) 1 1) [0] := by
    refine is_lit (p := [0]) (by omega) (by decide) ⟨ei (by omega) (by omega) ?_, trivial⟩ <;> (rw [hW]; repeat (first | (refine cell_newg ?_ rfl; simp; done) | refine cell_old ?_))
  have i3 : Bs W (.slice (some ⟨w.heap.size + 1 + 1, 0, none⟩) 2 2) [(2, [0]), (2, [0])] := by
    refine bs_lit (p := [(2, [0]), (2, [0])]) (by omega) (by decide) ⟨⟨by decide, by decide, by decide, ?_, _, ?_, i1⟩, ⟨by decide, by decide, by decide, ?_, _, ?_, i2⟩, trivial⟩ <;> (rw [hW]; repeat (first | (refine cell_newg ?_ rfl; simp; done) | refine cell_old ?_))
  rw [← hW]
  refine (substCheck_any v1 _ sumS [(2, [0]), (2, [0])] W (hs.kp (Kp.of_below h3)) i3 (hT.below h3)).mono ?_
  rintro e w' ⟨rfl, hb⟩
  rw [bindE_1]
  exact ⟨rfl, below_step h3 hb⟩

theorem call_check2 (w : World) (v1 : Value) (hs : Sg w v1 sumS) (hT : Tabs w) :
    Calls Tryd.prog 41 #[v1, .slice (some ⟨w.heap.size + 1, 0, none⟩) 1 1]
      ((w.alloc (Obj.cells #[Value.int IntKind.i64 1] 3)).alloc (Obj.cells #[Value.int IntKind.i64 0, Value.slice (some ⟨w.heap.size, 0, none⟩) 1 1] 30))
      fun e w' => e = .returned (.int .i64 31) ∧ Below w.heap.size w w' := by
  obtain ⟨W, hW⟩ : ∃ W, W = ((w.alloc (Obj.cells #[Value.int IntKind.i64 1] 3)).alloc (Obj.cells #[Value.int IntKind.i64 0, Value.slice (some ⟨w.heap.size, 0, none⟩) 1 1] 30)) := ⟨_, rfl⟩
  have hsz : W.heap.size = w.heap.size + 2 := by rw [hW]; simp
  have h3 : Below w.heap.size w W := by rw [hW]; exact b1 (b1 b0)
  have i1 : Is W (.slice (some ⟨w.heap.size, 0, none⟩) 1 1) [1] := by
    refine is_lit (p := [1]) (by omega) (by decide) ⟨ei (by omega) (by omega) ?_, trivial⟩ <;> (rw [hW]; repeat (first | (refine cell_newg ?_ rfl; simp; done) | refine cell_old ?_))
  have i3 : Bs W (.slice (some ⟨w.heap.size + 1, 0, none⟩) 1 1) [(0, [1])] := by
    refine bs_lit (p := [(0, [1])]) (by omega) (by decide) ⟨⟨by decide, by decide, by decide, ?_, _, ?_, i1⟩, trivial⟩ <;> (rw [hW]; repeat (first | (refine cell_newg ?_ rfl; simp; done) | refine cell_old ?_))
  rw [← hW]
  refine (substCheck_any v1 _ sumS [(0, [1])] W (hs.kp (Kp.of_below h3)) i3 (hT.below h3)).mono ?_
  rintro e w' ⟨rfl, hb⟩
  rw [bindE_2]
  exact ⟨rfl, below_step h3 hb⟩

end Go.Proofs.YtcijfaijjpkdoaaDoor

/- The examples come out true. -/
namespace Go.Proofs.YtcijfaijjpkdoaaDoor
open Go.RowKit Go.Maps Go.BigFrame

end Go.Proofs.YtcijfaijjpkdoaaDoor

/- Lists of rows: of one's own, held against each other, joined. -/
namespace Go.Proofs.YtcijfaijjpkdoaaDoor
open Go.RowKit Go.Maps Go.BigFrame

theorem rs_of_own {w : World} {base b2 : Nat} {v : Value} {vs : List Value} {l : List (List Int)} (h : w.ownsRow base 23 1 v l.length vs) (hr : OwR w b2 vs l) (hl : ∀ t ∈ l, t.length * 8 ≤ 140737488351232) : Rs w v l := by
  have h2 := h
  rcases h2.2 with ⟨rfl, hn⟩ | ⟨g, cap, cur, rfl, hb, hg, hc, hm, hs, ht⟩
  · obtain rfl := List.eq_nil_of_length_eq_zero hn
    exact Row.nil (by simp [maxLen])
  · refine ⟨_, cap, rfl, hc, hm, fun _ => ⟨g, 0, rfl, (Array.getElem?_eq_some_iff.1 hg).1, fun k t hk => ?_⟩⟩
    have hlt : k < l.length := (List.getElem?_eq_some_iff.1 hk).1
    obtain ⟨u, hu⟩ : ∃ u, vs[k]? = some u := ⟨_, List.getElem?_eq_getElem (by rw [hr.1]; exact hlt)⟩
    refine ⟨hl t (List.mem_of_getElem? hk), u, ?_, (hr.2 k u t hu hk).is⟩
    rw [Nat.zero_add, Nat.mul_one, World.ownsRow.cellAt h k (by omega)]
    exact hu

theorem renG_length {σ : Type} (φ : σ → Int → Int × σ) : ∀ (t : List Int) (s : σ), (renG φ s t).1.length = t.length
  | [], s => rfl
  | c :: t, s => by
    unfold renG
    split
    · simp only [List.length_cons, renG_length φ t]
    · simp only [List.length_cons, renG_length φ t]

theorem canG_lens : ∀ (l : List (List Int)) (m : Met), (canG m l).map List.length = l.map List.length
  | [], _ => rfl
  | t :: l, m => by
    unfold canG
    rw [List.map_cons, List.map_cons, canG_lens l, renG_length]

theorem canL_length (l : List (List Int)) : (canL l).length = l.length := by
  have := congrArg List.length (canG_lens l [])
  simpa [canL] using this

/-- Rows of the same lengths are as small. -/
theorem lens_small {l k : List (List Int)} (h : k.map List.length = l.map List.length) (hl : ∀ t ∈ l, t.length * 8 ≤ 140737488351232) : ∀ t ∈ k, t.length * 8 ≤ 140737488351232 := by
  intro t ht
  have h1 : t.length ∈ k.map List.length := List.mem_map.2 ⟨t, ht, rfl⟩
  rw [h] at h1
  obtain ⟨u, hu, e⟩ := List.mem_map.1 h1
  rw [← e]
  exact hl u hu

theorem Rs.small {w : World} {v : Value} {l : List (List Int)} (h : Rs w v l) : ∀ t ∈ l, t.length * 8 ≤ 140737488351232 := fun t ht => by
  obtain ⟨ao, cap, rfl, _, _, hx⟩ := Row.flat h
  obtain ⟨k, hk, rfl⟩ := List.getElem_of_mem ht
  obtain ⟨g, off, x, _, hm, h3, _⟩ := hx k hk
  rw [List.getElem?_eq_getElem hk] at hm
  cases hm
  exact h3

theorem join_row (ty : TypeId) {w : World} {base n : Nat} {x u : Value} {vs : List Value} (ho : w.ownsRow base 23 1 x n vs) (hb : base ≤ w.heap.size) (hl : (n + 1) * 24 ≤ 140737488355328) (hu : u.oneCell' = true) :
    ∃ v' w', (Builtin.append_ #[60, 60] ty #[x, .slice (some ⟨w.heap.size, 0, none⟩) 1 1]).run Tryd.prog (w.alloc (.cells #[u] 23)) = .ok v' w' ∧ w'.ownsRow base 23 1 v' (n + 1) (vs ++ [u]) ∧ (w.alloc (.cells #[u] 23)).grownBy w' x.ownBlock := by
  obtain ⟨i1, hi1, hy0, hy1, hy2⟩ := info_parts info_ints
  obtain ⟨v', w', hr, h2, h3, _, _⟩ := run_append_own_at (P := Tryd.prog) (w.alloc (.cells #[u] 23)) base 60 ty 23 i1 _ 1 24 under_rows hi1 hy0 hy1 hy2 rfl (by decide) x n vs (ownsRow_later ho (below_alloc _)) ⟨w.heap.size, 0, none⟩ 1 1 [u] rfl
    (fun j y hj => by
      rw [Addr.add_lit, Nat.zero_add]
      cases j with
      | zero =>
        simp at hj
        subst hj
        exact cell_new rfl
      | succ j => simp at hj) (fun y hy => by simp at hy; subst hy; exact hu) (by unfold maxLen; omega) (by omega) (Nat.le_trans hb (below_alloc _).size)
  exact ⟨v', w', hr, h2, h3⟩

end Go.Proofs.YtcijfaijjpkdoaaDoor

/- Rows of trees: cloned, turned round. -/
namespace Go.Proofs.YtcijfaijjpkdoaaDoor
open Go.RowKit Go.Maps

section
variable {P : Program} {w w' : World} {ops : Array Oper} {rest : List Oper} {o : Oper} {a : Act} {Q : Exit → Act → World → Prop}

theorem wpList_append_runT (hg : o.guard = none) (s x : Operand) (t : TypeId) (ho : o.op = .call { callee := .builtin .append, args := #[s, x], argTypes := #[t, t] }) (v u : Value) {v' : Value} (hs : a.eval s = v) (hx : a.eval x = u)
    (hr : (Builtin.append_ #[t, t] o.type #[v, u]).run P w = .ok v' w') (h : wpList P ops Q rest (a.put o.dst v') w') : wpList P ops Q (o :: rest) a w := by
  refine wpList_plain hg fun K' hK' => ?_
  unfold Oper.wp
  simp [execOp, ho, resolve, invoke, builtin, hs, hx, hr, Result.andThen]
  exact hK' _ _ h

end

/-- A slice that is read, by its values. -/
def RdV (w : World) (v : Value) (vals : List Value) : Prop :=
  (v = .slice none 0 0 ∧ vals = []) ∨ ∃ g off cap, v = .slice (some ⟨g, off, none⟩) vals.length cap ∧ ∀ (j : Nat) (u : Value), vals[j]? = some u → w.cell? ⟨g, off + j, none⟩ = some u

theorem drawn_below1 (w : World) : Below w.heap.size w w.drew := (Below.refl _ _).drew

theorem set_grownT (w : World) (g k : Nat) (u : Value) : w.grownBy (w.setCell ⟨g, k, none⟩ u) (some g) :=
  ⟨rfl, rfl, rfl, by simp [World.setCell], fun i _ hne => heap_setCell_other _ _ _ _ (by intro e; subst e; exact hne rfl)⟩

/-- A value of an interface. -/
def IfV (u : Value) : Prop := ∃ t x, u = .iface t x

theorem swp_mem {d : Array Value} {i j : Nat} (hi : i < d.size) (hj : j < d.size) {u : Value} (h : u ∈ (Sort.swp d i j).toList) : u ∈ d.toList := by
  unfold Sort.swp at h
  simp only [Array.toList_setIfInBounds] at h
  rcases List.mem_or_eq_of_mem_set h with h | h
  · rcases List.mem_or_eq_of_mem_set h with h | h
    · exact h
    · rw [h, getElem!_pos d j hj]; exact Array.getElem_mem_toList hj
  · rw [h, getElem!_pos d i hi]; exact Array.getElem_mem_toList hi

theorem swp_list {d : Array Value} {i j : Nat} (hi : i < d.size) (hj : j < d.size) : (Sort.swp d i j).toList = (d.toList.set i d[j]!).set j d[i]! := by
  unfold Sort.swp
  simp [getElem!_pos, hi, hj]

end Go.Proofs.YtcijfaijjpkdoaaDoor

/- Trees in memory; apply. -/
namespace Go.Proofs.YtcijfaijjpkdoaaDoor
open Go.RowKit Go.Maps

/-- A term as a tree, without its symbols. -/
inductive Tr where
  | var : Tr
  | app : List Tr → Tr

mutual
def Tr.size : Tr → Nat
  | .var => 1
  | .app ts => 1 + sizes ts
def sizes : List Tr → Nat
  | [] => 0
  | t :: ts => t.size + sizes ts
end

theorem IfV.one {u : Value} (h : IfV u) : u.oneCell' = true := by obtain ⟨t, x, rfl⟩ := h; rfl

theorem sizes_app : ∀ (a b : List Tr), sizes (a ++ b) = sizes a + sizes b
  | [], b => by simp [sizes]
  | t :: a, b => by simp only [List.cons_append, sizes, sizes_app a b]; omega

theorem sizes_take (ts : List Tr) (k : Nat) : sizes (ts.take k) ≤ sizes ts := by
  have := sizes_app (ts.take k) (ts.drop k)
  rw [List.take_append_drop] at this
  omega

theorem Tr.pos (t : Tr) : 1 ≤ t.size := by
  cases t <;> simp only [Tr.size] <;> omega

theorem len_sizes : ∀ ts : List Tr, ts.length ≤ sizes ts
  | [] => by simp [sizes]
  | t :: ts => by
    have := t.pos
    have := len_sizes ts
    simp only [List.length_cons, sizes]
    omega

theorem RdV.kp {w w' : World} {v : Value} {vals : List Value} (h : RdV w v vals) (hk : Kp w w') : RdV w' v vals := by
  rcases h with h | ⟨g, off, cap, h1, h2⟩
  · exact .inl h
  · exact .inr ⟨g, off, cap, h1, fun j u hj => hk.cell _ _ (h2 j u hj)⟩

theorem RdV.at {w : World} {ao : Option Addr} {n cap : Nat} {vals : List Value} (h : RdV w (.slice ao n cap) vals) {k : Nat} {u : Value} (hk : vals[k]? = some u) : ∃ g off, ao = some ⟨g, off, none⟩ ∧ w.cell? ⟨g, off + k, none⟩ = some u := by
  rcases h with ⟨_, rfl⟩ | ⟨g, off, cap', h1, h2⟩
  · simp at hk
  · simp only [Value.slice.injEq] at h1
    exact ⟨g, off, h1.1, h2 k u hk⟩

end Go.Proofs.YtcijfaijjpkdoaaDoor
