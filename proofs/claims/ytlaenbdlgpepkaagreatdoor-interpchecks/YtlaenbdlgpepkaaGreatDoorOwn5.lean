/- Texts of the proof, one behind the other. -/
import Derived.Test.YtlaenbdlgpepkaaGreatDoorOwn4
import Derived.RangeFuncNested
import Derived.RangeFuncBound
import Derived.RangeFuncCalls
import Derived.RangeFuncLeaves
import Derived.RangeFuncBox
import Derived.Shelf.Abstract
import Derived.Shelf.RegionOpen
import Derived.OwnWalkIn
import Derived.TacticsInMore
import Derived.LoopNIn
import Derived.LoopIn
import Derived.Sort.QuietTacIn
import Derived.Sort.CutIn
import Derived.Deep.DeepAppendRoom
import Derived.Test.YtlaenbdlgpepkaaGreatDoorOwn3
import Derived.Test.YtlaenbdlgpepkaaGreatDoorOwn1
import Derived.Laws.Rows
import Derived.Laws.ResultCell
import Derived.Test.YtlaenbdlgpepkaaGreatDoorOwn2
/- The tree of a right term. -/
namespace Go.Proofs.YtlaenbdlgpepkaaGreatDoor
open Go.RowKit Go.Maps Go.Shelf

attribute [local go_sem] Oper.semAt_some

/-- How many arguments a code has. -/
def arN (sig : List Sy) (c : Int) : Nat := match sig[c.toNat]? with | some s => s.2.toNat | none => 0

/-- A code more, from the back to the front: what begins first is the last one. -/
def growStep (sig : List Sy) (st : List Tr) (c : Int) : List Tr := if c < 0 then st ++ [.var] else st.take (st.length - arN sig c) ++ [.app (st.drop (st.length - arN sig c)).reverse]

def growR (sig : List Sy) : List Int → List Tr
  | [] => []
  | c :: u => growStep sig (growR sig u) c

theorem sizes_rev : ∀ ts : List Tr, sizes ts.reverse = sizes ts
  | [] => rfl
  | t :: ts => by
    rw [List.reverse_cons, sizes_app, sizes_rev ts]
    simp only [sizes]
    omega

theorem growStep_sizes (sig : List Sy) (st : List Tr) (c : Int) : sizes (growStep sig st c) = sizes st + 1 := by
  unfold growStep
  split
  · rw [sizes_app]; simp [sizes, Tr.size]
  · have h1 := sizes_app (st.take (st.length - arN sig c)) (st.drop (st.length - arN sig c))
    rw [List.take_append_drop] at h1
    rw [sizes_app]
    simp only [sizes, Tr.size, sizes_rev]
    omega

theorem growR_sizes (sig : List Sy) : ∀ u : List Int, sizes (growR sig u) = u.length
  | [] => rfl
  | c :: u => by
    show sizes (growStep sig (growR sig u) c) = _
    rw [growStep_sizes, growR_sizes sig u, List.length_cons]

theorem codeD_ar {sig : List Sy} (ha : ArOk sig) {c e : Int} (h : codeD sig c = some e) (hc : ¬ c < 0) : e = (arN sig c : Int) - 1 ∧ c.toNat < sig.length := by
  unfold codeD at h
  by_cases h9 : c < -1048576
  · omega
  · rw [if_neg h9, if_neg hc] at h
    cases hs : sig[c.toNat]? with
    | none => rw [hs] at h; cases h
    | some s =>
      rw [hs] at h
      have := ha s (List.mem_of_getElem? hs)
      simp only [Option.some.injEq] at h
      unfold arN
      rw [hs]
      simp only
      exact ⟨by omega, (List.getElem?_eq_some_iff.1 hs).1⟩

/-- The terms that a row is made of, and that each code finds its arguments. -/
theorem growR_len {sig : List Sy} (ha : ArOk sig) : ∀ (u : List Int) (m : Int) (i : Nat), 1 ≤ m → firstT sig m i u = ((i : Int) + u.length, 0) → ((growR sig u).length : Int) = m
  | [], m, i, hm, h => by simp [firstT] at h
  | c :: u, m, i, hm, h => by
    rw [firstT_cons] at h
    cases hc : codeD sig c with
    | none => rw [hc] at h; simp at h
    | some e =>
      rw [hc] at h
      simp only at h
      have he := codeD_ge ha hc
      have hlen : ((growR sig u).length : Int) = m + e := by
        by_cases h0 : m + e = 0
        · rw [if_pos h0] at h
          have := congrArg Prod.fst h
          simp only [List.length_cons] at this
          obtain rfl : u = [] := List.eq_nil_of_length_eq_zero (by omega)
          show ((0 : Nat) : Int) = _
          omega
        · rw [if_neg h0] at h
          exact growR_len ha u (m + e) (i + 1) (by omega) (by rw [h]; simp only [List.length_cons, Prod.mk.injEq, and_true]; omega)
      show ((growStep sig (growR sig u) c).length : Int) = m
      unfold growStep
      by_cases hv : c < 0
      · rw [if_pos hv, List.length_append]
        have he1 : e = -1 := by
          have hc2 := hc
          unfold codeD at hc2
          by_cases h9 : c < -1048576
          · rw [if_pos h9] at hc2; cases hc2
          · rw [if_neg h9, if_pos hv] at hc2; cases hc2; rfl
        simp only [List.length_cons, List.length_nil]
        omega
      · rw [if_neg hv, List.length_append, List.length_take]
        have := (codeD_ar ha hc hv).1
        simp only [List.length_cons, List.length_nil]
        omega

/-- Each code of a right term: it is one, and its arguments are there. -/
theorem grow_code {sig : List Sy} (ha : ArOk sig) : ∀ (p : List Int) (c : Int) (u : List Int) (m : Int) (i : Nat), 1 ≤ m → firstT sig m i (p ++ c :: u) = ((i : Int) + (p ++ c :: u).length, 0) → ¬ c < 0 → c.toNat < sig.length ∧ arN sig c ≤ (growR sig u).length
  | [], c, u, m, i, hm, h, hv => by
    rw [List.nil_append] at h
    have hl := growR_len ha (c :: u) m i hm h
    rw [firstT_cons] at h
    cases hc : codeD sig c with
    | none => rw [hc] at h; simp at h
    | some e =>
      rw [hc] at h
      simp only at h
      obtain ⟨k1, k2⟩ := codeD_ar ha hc hv
      refine ⟨k2, ?_⟩
      by_cases h0 : m + e = 0
      · omega
      · rw [if_neg h0] at h
        have := growR_len ha u (m + e) (i + 1) (by have := codeD_ge ha hc; omega) (by rw [h]; simp only [List.length_cons, Prod.mk.injEq, and_true]; omega)
        omega
  | d :: p, c, u, m, i, hm, h, hv => by
    rw [List.cons_append, firstT_cons] at h
    cases hc : codeD sig d with
    | none => rw [hc] at h; simp at h
    | some e =>
      rw [hc] at h
      simp only at h
      by_cases h0 : m + e = 0
      · rw [if_pos h0] at h
        have := congrArg Prod.fst h
        simp at this
        omega
      · rw [if_neg h0] at h
        exact grow_code ha p c u (m + e) (i + 1) (by have := codeD_ge ha hc; omega) (by rw [h]; simp only [List.length_cons, Prod.mk.injEq, and_true]; omega) hv

theorem grow_one {sig : List Sy} (ha : ArOk sig) {t : List Int} (h : rowE sig t = 0) : ∃ T, growR sig t = [T] ∧ T.size = t.length := by
  have h1 := growR_len ha t 1 0 (by omega) (by rw [row_first.1 h]; simp)
  have h2 := growR_sizes sig t
  cases hg : growR sig t with
  | nil => rw [hg] at h1; simp at h1
  | cons T r =>
    rw [hg] at h1 h2
    obtain rfl : r = [] := List.eq_nil_of_length_eq_zero (by simp at h1; omega)
    exact ⟨T, rfl, by simpa [sizes] using h2⟩

end Go.Proofs.YtlaenbdlgpepkaaGreatDoor

/- A term's arguments, one behind the other. -/
namespace Go.Proofs.YtlaenbdlgpepkaaGreatDoor
open Go.RowKit Go.Maps

theorem term_parts {sig : List Sy} {t : List Int} (h : termE sig t = 0) : sigE sig = 0 ∧ rowE sig t = 0 := by
  unfold termE at h
  by_cases hs : sigE sig = 0
  · rw [if_pos hs] at h; exact ⟨hs, h⟩
  · rw [if_neg hs] at h; exact absurd h hs

end Go.Proofs.YtlaenbdlgpepkaaGreatDoor

/- Like monomials brought together, as plain data: rows of keys (bytes) with their limbs, rising. -/
namespace Go.Proofs.YtlaenbdlgpepkaaGreatDoor

/-- Which of two rows of bytes comes first (of one length). -/
def cmpK : List Nat → List Nat → Int
  | [], [] => 0
  | [], _ :: _ => -1
  | _ :: _, [] => 1
  | a :: r, b :: q => if a < b then -1 else if b < a then 1 else cmpK r q

abbrev ltK (a b : List Nat) : Prop := cmpK a b < 0

theorem cmpK_self (a : List Nat) : cmpK a a = 0 := by
  induction a with
  | nil => rfl
  | cons a r ih => simp [cmpK, ih]

theorem cmpK_zero {a b : List Nat} (h : cmpK a b = 0) : a = b := by
  induction a generalizing b with
  | nil => cases b with
    | nil => rfl
    | cons b q => simp [cmpK] at h
  | cons a r ih => cases b with
    | nil => simp [cmpK] at h
    | cons b q =>
      unfold cmpK at h
      split at h
      · omega
      · split at h
        · omega
        · rw [ih h, show a = b by omega]

theorem cmpK_swap (a b : List Nat) : cmpK b a = -cmpK a b := by
  induction a generalizing b with
  | nil => cases b <;> simp [cmpK]
  | cons a r ih => cases b with
    | nil => simp [cmpK]
    | cons b q =>
      unfold cmpK
      by_cases h1 : a < b
      · rw [if_neg (by omega), if_pos h1, if_pos h1]; rfl
      · by_cases h2 : b < a
        · rw [if_pos h2, if_neg h1, if_pos h2]
        · rw [if_neg h2, if_neg h1, if_neg h1, if_neg h2, ih]

theorem ltK_trans {a b c : List Nat} (h : ltK a b) (h' : ltK b c) : ltK a c := by
  unfold ltK at *
  induction a generalizing b c with
  | nil => cases b with
    | nil => exact h'
    | cons b q => cases c with
      | nil => simp [cmpK] at h'
      | cons c s => simp [cmpK]
  | cons a r ih => cases b with
    | nil => simp [cmpK] at h
    | cons b q => cases c with
      | nil => simp [cmpK] at h'
      | cons c s =>
        unfold cmpK at h h' ⊢
        by_cases h1 : a < b
        · by_cases h2 : b < c
          · rw [if_pos (by omega)]; omega
          · rw [if_neg h2] at h'
            by_cases h3 : c < b
            · rw [if_pos h3] at h'; omega
            · rw [if_pos (by omega)]; omega
        · rw [if_neg h1] at h
          by_cases h4 : b < a
          · rw [if_pos h4] at h; omega
          · rw [if_neg h4] at h
            obtain rfl : a = b := by omega
            by_cases h2 : a < c
            · rw [if_pos h2]; omega
            · rw [if_neg h2] at h' ⊢
              by_cases h3 : c < a
              · rw [if_pos h3] at h'; omega
              · rw [if_neg h3] at h' ⊢
                exact ih h h'

theorem ltK_irrefl (a : List Nat) : ¬ ltK a a := by unfold ltK; rw [cmpK_self]; omega

theorem ltK_or {a b : List Nat} (h : ¬ a = b) (h' : ¬ ltK a b) : ltK b a := by
  unfold ltK at *
  have h1 := cmpK_swap a b
  have h2 : ¬ cmpK a b = 0 := fun e => h (cmpK_zero e)
  omega

abbrev LkY := List (List Nat × List Nat)

def Rising (L : LkY) : Prop := L.Pairwise (fun p q => ltK p.1 q.1)

/-- The limbs at a key; none: there is no such one. -/
def coefK (L : LkY) (k : List Nat) : List Nat := ((L.find? (fun p => p.1 == k)).map (·.2)).getD []

def hasK (L : LkY) (k : List Nat) : Bool := L.any (fun p => p.1 == k)

/-- Limbs laid at a key. -/
def insK : LkY → List Nat → List Nat → LkY
  | [], k, c => [(k, c)]
  | p :: r, k, c => if k = p.1 then (k, c) :: r else if ltK k p.1 then (k, c) :: p :: r else p :: insK r k c

theorem mem_insK {L : LkY} {k c : List Nat} (hL : Rising L) (q : List Nat × List Nat) : q ∈ insK L k c ↔ q = (k, c) ∨ (q ∈ L ∧ ¬ q.1 = k) := by
  induction L with
  | nil => simp [insK]
  | cons p r ih =>
    unfold Rising at hL
    rw [List.pairwise_cons] at hL
    have ih := ih hL.2
    unfold insK
    by_cases h1 : k = p.1
    · rw [if_pos h1]
      simp only [List.mem_cons]
      constructor
      · rintro (h | h)
        · exact .inl h
        · refine .inr ⟨.inr h, fun e => ?_⟩
          have := hL.1 q h
          rw [e, h1] at this
          exact ltK_irrefl _ this
      · rintro (h | ⟨h | h, h2⟩)
        · exact .inl h
        · exact absurd (by rw [h, h1]) h2
        · exact .inr h
    · rw [if_neg h1]
      by_cases h2 : ltK k p.1
      · rw [if_pos h2]
        simp only [List.mem_cons]
        constructor
        · rintro (h | h | h)
          · exact .inl h
          · exact .inr ⟨.inl h, by rw [h]; exact fun e => h1 e.symm⟩
          · refine .inr ⟨.inr h, fun e => ?_⟩
            have := hL.1 q h
            rw [e] at this
            exact ltK_irrefl _ (ltK_trans h2 this)
        · rintro (h | ⟨h | h, _⟩)
          · exact .inl h
          · exact .inr (.inl h)
          · exact .inr (.inr h)
      · rw [if_neg h2]
        simp only [List.mem_cons, ih]
        constructor
        · rintro (h | h | ⟨h, h3⟩)
          · exact .inr ⟨.inl h, by rw [h]; exact fun e => h1 e.symm⟩
          · exact .inl h
          · exact .inr ⟨.inr h, h3⟩
        · rintro (h | ⟨h | h, h3⟩)
          · exact .inr (.inl h)
          · exact .inl h
          · exact .inr (.inr ⟨h, h3⟩)

theorem rising_insK {L : LkY} {k c : List Nat} (hL : Rising L) : Rising (insK L k c) := by
  induction L with
  | nil => simp [insK, Rising]
  | cons p r ih =>
    have hL' := hL
    unfold Rising at hL
    rw [List.pairwise_cons] at hL
    unfold insK
    by_cases h1 : k = p.1
    · rw [if_pos h1]
      unfold Rising
      rw [List.pairwise_cons]
      exact ⟨fun q hq => by show ltK k q.1; rw [h1]; exact hL.1 q hq, hL.2⟩
    · rw [if_neg h1]
      by_cases h2 : ltK k p.1
      · rw [if_pos h2]
        unfold Rising
        rw [List.pairwise_cons]
        refine ⟨fun q hq => ?_, hL'⟩
        show ltK k q.1
        rcases List.mem_cons.1 hq with rfl | hq
        · exact h2
        · exact ltK_trans h2 (hL.1 q hq)
      · rw [if_neg h2]
        unfold Rising
        rw [List.pairwise_cons]
        refine ⟨fun q hq => ?_, ih hL.2⟩
        rcases (mem_insK hL.2 q).1 hq with rfl | ⟨hq, _⟩
        · exact ltK_or h1 h2
        · exact hL.1 q hq

theorem hasK_iff {L : LkY} {k : List Nat} : hasK L k = true ↔ ∃ c, (k, c) ∈ L := by
  unfold hasK
  rw [List.any_eq_true]
  constructor
  · rintro ⟨⟨k', c⟩, h, e⟩
    have : k' = k := by simpa using e
    subst this
    exact ⟨c, h⟩
  · rintro ⟨c, h⟩
    exact ⟨(k, c), h, by simp⟩

theorem length_insK {L : LkY} {k c : List Nat} (hL : Rising L) : (insK L k c).length = if hasK L k then L.length else L.length + 1 := by
  induction L with
  | nil => simp [insK, hasK]
  | cons p r ih =>
    unfold Rising at hL
    rw [List.pairwise_cons] at hL
    have ih := ih hL.2
    unfold insK
    by_cases h1 : k = p.1
    · rw [if_pos h1]
      have : hasK (p :: r) k = true := by simp [hasK, h1]
      rw [this]; simp
    · rw [if_neg h1]
      have hb : (p.1 == k) = false := by rw [beq_eq_false_iff_ne]; exact fun e => h1 e.symm
      have hc : hasK (p :: r) k = hasK r k := by simp [hasK, hb]
      by_cases h2 : ltK k p.1
      · rw [if_pos h2]
        have : hasK (p :: r) k = false := by
          rw [Bool.eq_false_iff]
          intro h
          rw [hc, hasK_iff] at h
          obtain ⟨c', h⟩ := h
          exact ltK_irrefl _ (ltK_trans h2 (hL.1 _ h))
        rw [this]; simp
      · rw [if_neg h2, hc, List.length_cons, ih]
        split <;> simp

theorem coefK_mem {L : LkY} {k c : List Nat} (hL : Rising L) (h : (k, c) ∈ L) : coefK L k = c := by
  induction L with
  | nil => cases h
  | cons p r ih =>
    unfold Rising at hL
    rw [List.pairwise_cons] at hL
    rcases List.mem_cons.1 h with rfl | h
    · simp [coefK]
    · have hb : (p.1 == k) = false := by
        rw [beq_eq_false_iff_ne]
        intro e
        have := hL.1 _ h
        rw [e] at this
        exact ltK_irrefl _ this
      have := ih hL.2 h
      unfold coefK at this ⊢
      rw [List.find?_cons, hb]
      exact this

theorem coefK_none {L : LkY} {k : List Nat} (h : hasK L k = false) : coefK L k = [] := by
  unfold coefK
  rw [List.find?_eq_none.2]
  · rfl
  · intro p hp e
    have : hasK L k = true := List.any_eq_true.2 ⟨p, hp, e⟩
    rw [h] at this
    cases this

/-- What put answers, and what it leaves. -/
def putE (L : LkY) (k c : List Nat) : Int := if addE (coefK L k) c = 0 then (if (insK L k (addL (coefK L k) c)).length ≤ 256 then 0 else 2) else addE (coefK L k) c

def putL (L : LkY) (k c : List Nat) : LkY := if addE (coefK L k) c = 0 then insK L k (addL (coefK L k) c) else L

end Go.Proofs.YtlaenbdlgpepkaaGreatDoor

/- Rows of exponents as bytes: packed, unpacked, raised. -/
namespace Go.Proofs.YtlaenbdlgpepkaaGreatDoor
open Go.RowKit

/-- A row of bytes as an array's cells. -/
def arr (ks : List Nat) : Array Value := (ks.map fun (x : Nat) => Value.int .u8 (x : Int)).toArray

theorem arr_size (ks : List Nat) : (arr ks).size = ks.length := by simp [arr]

theorem arr_get {ks : List Nat} {k x : Nat} (h : ks[k]? = some x) : (arr ks)[k]? = some (.int .u8 (x : Int)) := by simp [arr, h]

theorem arr_one (ks : List Nat) : (arr ks).all (·.oneCell') = true := by
  rw [Array.all_eq_true_iff_forall_mem]
  intro v hv
  simp only [arr, List.mem_toArray, List.mem_map] at hv
  obtain ⟨x, _, rfl⟩ := hv
  rfl

def zeros : List Nat := List.replicate 512 0

set_option maxRecDepth 100000 in
theorem zero_cells : Tryz.zeroCells160 = arr zeros := by kernel_rfl

theorem len_zeros : zeros.length = 512 := List.length_replicate

/-- Block g holds a row of bytes. -/
def Ar (w : World) (g : Nat) (ks : List Nat) : Prop := w.heap[g]? = some (.cells (arr ks) 160 (0, 0))

theorem Ar.lt {w : World} {g : Nat} {ks : List Nat} (h : Ar w g ks) : g < w.heap.size := (Array.getElem?_eq_some_iff.1 h).1

theorem Ar.cell {w : World} {g : Nat} {ks : List Nat} (h : Ar w g ks) {k x : Nat} (hk : ks[k]? = some x) : w.cell? ⟨g, k, none⟩ = some (.int .u8 (x : Int)) := by
  rw [cell_of_row w g k _ _ _ h, arr_get hk]

theorem Ar.frozen {w : World} {g : Nat} {ks : List Nat} (h : Ar w g ks) (k : Nat) : w.frozen? ⟨g, k, none⟩ = false := by
  unfold Ar at h
  simp [World.frozen?, h]

theorem Ar.set {w : World} {g : Nat} {ks : List Nat} (h : Ar w g ks) (k x : Nat) : Ar (w.setCell ⟨g, k, none⟩ (.int .u8 (x : Int))) g (ks.set k x) := by
  unfold Ar at h ⊢
  rw [setCell_eq_setRow w g k _ _ _ _ h, setRow_heap w g _ _ _ _ h]
  congr 2
  simp [arr, List.map_set]

theorem Ar.below {w w' : World} {B g : Nat} {ks : List Nat} (h : Ar w g ks) (hb : Below B w w') (hg : g < B) : Ar w' g ks := (hb.block g hg).trans h

theorem Ar.later {w w' : World} {g : Nat} {ks : List Nat} (h : Ar w g ks) (hb : Below w.heap.size w w') : Ar w' g ks := h.below hb h.lt

theorem Ar.setOther {w : World} {g g' k : Nat} {ks : List Nat} {v : Value} (h : Ar w g ks) (hne : g ≠ g') : Ar (w.setCell ⟨g', k, none⟩ v) g ks := (Below.heap_setCell w ⟨g', k, none⟩ v g hne).trans h

theorem Ar.new (w : World) (ks : List Nat) : Ar (w.alloc (.cells (arr ks) 160)) w.heap.size ks := heap_alloc_new w _

/-- The exponents as a row of 512 bytes. -/
def keyX (es : List Int) : List Nat := es.map Int.toNat ++ List.replicate (512 - es.length) 0

/-- The same, as far as some place. -/
def keyTo (es : List Int) (k : Nat) : List Nat := (es.take k).map Int.toNat ++ List.replicate (512 - k) 0

theorem keyTo_full (es : List Int) : keyTo es es.length = keyX es := by simp [keyTo, keyX]

theorem keyTo_get {es : List Int} {k : Nat} (h : k < es.length) (h' : k < 512) : (keyTo es k)[k]? = some 0 := by
  unfold keyTo
  have hl : ((es.take k).map Int.toNat).length = k := by simp; omega
  rw [List.getElem?_append_right (by omega), hl, Nat.sub_self, List.getElem?_replicate, if_pos (by omega)]

theorem keyTo_step {es : List Int} {k : Nat} {x : Int} (h : es[k]? = some x) (h' : k < 512) : (keyTo es k).set k x.toNat = keyTo es (k + 1) := by
  have hk := (List.getElem?_eq_some_iff.1 h).1
  unfold keyTo
  rw [show 512 - k = (512 - (k + 1)) + 1 by omega, List.replicate_succ, set_mid _ _ _ _ _ (by simp; omega), take_getY h]
  simp

theorem keyX_len {es : List Int} (h : es.length ≤ 512) : (keyX es).length = 512 := by simp [keyX]; omega

theorem info_arr : (Tryz.prog.info? 160).map (·.size) = some 512 := by kernel_rfl

theorem under_arr : Tryz.prog.underlying 160 = some (.array 512 5) := by kernel_rfl

theorem Ar.put {w w0 : World} {g B : Nat} {ks : List Nat} (h : Ar w g ks) (hb : Below B w0 w) (hB : B ≤ g) {k z : Nat} {V : Int} (hV : V = (z : Int)) {ys : List Nat} (hys : ks.set k z = ys) :
    Ar (w.setCell ⟨g, k, none⟩ (.int .u8 V)) g ys ∧ Below B w0 (w.setCell ⟨g, k, none⟩ (.int .u8 V)) := by
  subst hV; subst hys
  exact ⟨h.set k z, hb.setCell (p := ⟨g, k, none⟩) hB _⟩

theorem below_setRowY {B : Nat} {a w : World} (h : Below B a w) {g : Nat} (hg : B ≤ g) {cs : Array Value} : Below B a (w.setRow g cs) :=
  h.trans ⟨rfl, rfl, rfl, by simp [World.setRow], fun k hk => setRow_other w g k _ (by omega)⟩

theorem results_ct_row {fn : Func} {p u : Tmp} (h : fn.results = #[.cell p 160, .tmp u]) (tmps : Array Value) (w : World) (g : Nat) (t : TypeId) (cs : Array Value) (fr : Nat × Nat)
    (hp : tmps.getD p undef = .pointer (some ⟨g, 0, none⟩)) (hg : w.heap[g]? = some (.cells cs t fr)) (hi : cs.size = 512) :
    (results fn tmps).run Tryz.prog w = .ok (.tuple #[.agg cs, tmps.getD u undef]) w := by
  rw [results_cell_tmp h, hp]
  simp only [asAddr, Sem.run_pure, Result.andThen_ok, run_loadVar_row w g t 160 cs fr _ hg under_arr rfl (by rw [info_arr, hi])]

/-- Exponents in bounds. -/
def Small (es : List Int) : Prop := es.length ≤ 512 ∧ ∀ (k : Nat) (x : Int), es[k]? = some x → 0 ≤ x ∧ x ≤ 64

set_option maxRecDepth 100000 in
set_option maxHeartbeats 800000 in
theorem packed_any (v : Value) (es : List Int) (w : World) (h : Is w v es) (hs : Small es) :
    Calls Tryz.prog 115 #[v] w fun e w' => e = .returned (.agg (arr (keyX es))) ∧ Below w.heap.size w w' := by
  obtain ⟨ao, cap, rfl, hao, hca, q0⟩ := Row.flat h
  unfold maxLen at hca
  have h512 := hs.1
  have HS : Hid (Small es) := hs
  have HI : Hid (Is w (.slice ao es.length cap) es) := h
  clear h q0 hs
  go_enter Tryz.func115, Tryz.ntmps115
  go_wp2
  rw [zero_cells]
  go_loopw [8] (fun i wr => ∃ k : Nat, k ≤ es.length ∧ i = .int .i64 k ∧ Ar wr w.heap.size zeros ∧ Ar wr (w.heap.size + 1) (keyTo es k) ∧ Below w.heap.size w wr) (fun i _ => es.length - (intOf i).toNat)
  case atStart =>
    refine ⟨0, by omega, rfl, ?_, ?_, ?_⟩
    · exact (Ar.new w zeros).later (below_alloc _)
    · have := Ar.new (w.alloc (.cells (arr zeros) 160)) zeros
      simpa [keyTo, zeros] using this
    · exact below_step (below_alloc _) (below_alloc _)
  case round =>
    obtain ⟨k, hk, rfl, hz, hy, hbl⟩ := hrel
    have HZ : Hid (Ar wr w.heap.size zeros) := hz
    have HY : Hid (Ar wr (w.heap.size + 1) (keyTo es k)) := hy
    clear hz hy
    by_cases hlt : k < es.length
    · obtain ⟨g, off, x, rfl, hx1, hx2, hx3, hx4⟩ := (HI.out.kp (Kp.of_below hbl)).at hlt
      have HX : Hid (es[k]? = some x) := hx1
      obtain ⟨hx5, hx6⟩ := HS.out.2 k x hx1
      have hcell := HY.out.cell (keyTo_get hlt (by omega))
      have hfr := HY.out.frozen k
      have hk512 : k < 512 := by omega
      clear hx1
      have hq := HY.out.put hbl (by omega) (k := k) (z := x.toNat) (V := x) (by omega) (keyTo_step HX.out hk512)
      have HP : Hid (Ar (wr.setCell ⟨w.heap.size + 1, k, none⟩ (.int .u8 x)) (w.heap.size + 1) (keyTo es (k + 1)) ∧ Below w.heap.size w (wr.setCell ⟨w.heap.size + 1, k, none⟩ (.int .u8 x))) := hq
      clear hq
      go_wp2
      go_roundw
      case rel => exact ⟨k + 1, by omega, by go_num, HZ.out.setOther (by omega), HP.out.1, HP.out.2⟩
      case measure => simp [intOf]; omega
    · have hke : k = es.length := by omega
      subst hke
      have hy := HY.out
      rw [keyTo_full] at hy
      have HY2 : Hid (Ar wr (w.heap.size + 1) (keyX es)) := hy
      have hl2 := keyX_len h512
      clear hy HY
      go_wp2_with (first
        | (refine wpList_load_row rfl _ _ rfl (w.heap.size + 1) rfl _ _ _ _ HY2.out under_arr rfl (by rw [info_arr, arr_size, hl2]) ?_)
        | (refine wpList_store_row rfl _ _ _ rfl w.heap.size (arr (keyX es)) rfl rfl _ _ HZ.out (by rw [info_arr, arr_size, hl2]) (by rw [arr_size, arr_size, len_zeros, hl2]) (arr_one _) ?_))
      refine bodyPost_ret (results_cell_row rfl _ _ w.heap.size _ (arr (keyX es)) (0, 0) _ rfl (setRow_heap wr _ _ _ _ _ HZ.out) under_arr rfl (by rw [info_arr, arr_size, hl2])) rfl ?_
      exact ⟨rfl, below_setRowY hbl (Nat.le_refl _)⟩

/-- The bytes of two rows, added. -/
def addK (a b : List Nat) : List Nat := List.zipWith (· + ·) a b

def addTo (ks : List Nat) (es : List Int) (k : Nat) : List Nat := addK (ks.take k) ((es.take k).map Int.toNat) ++ ks.drop k

theorem addTo_get {ks : List Nat} {es : List Int} {k x : Nat} (hk : ks[k]? = some x) (h : k < es.length) : (addTo ks es k)[k]? = some x := by
  have h1 := (List.getElem?_eq_some_iff.1 hk).1
  have hl : (addK (ks.take k) ((es.take k).map Int.toNat)).length = k := by simp [addK]; omega
  unfold addTo
  rw [List.getElem?_append_right (by omega), hl, Nat.sub_self, List.getElem?_drop, Nat.add_zero, hk]

theorem addTo_step {ks : List Nat} {es : List Int} {k x : Nat} {y : Int} (hk : ks[k]? = some x) (h : es[k]? = some y) : (addTo ks es k).set k (x + y.toNat) = addTo ks es (k + 1) := by
  have h1 := (List.getElem?_eq_some_iff.1 hk).1
  have h2 := (List.getElem?_eq_some_iff.1 h).1
  have hl : (addK (ks.take k) ((es.take k).map Int.toNat)).length = k := by simp [addK]; omega
  unfold addTo
  rw [drop_getY hk, set_mid _ _ _ _ _ hl, take_getY hk, take_getY h]
  unfold addK
  rw [List.map_append, List.zipWith_append (by simp; omega)]
  simp

theorem addK_zero (ks : List Nat) : ∀ n, n = ks.length → addK ks (List.replicate n 0) = ks := by
  intro n hn
  subst hn
  induction ks with
  | nil => rfl
  | cons a r ih => simp only [List.length_cons, List.replicate_succ, addK, List.zipWith_cons_cons, Nat.add_zero]; congr 1

theorem addTo_full {ks : List Nat} {es : List Int} (hk : ks.length = 512) (h : es.length ≤ 512) : addTo ks es es.length = addK ks (keyX es) := by
  unfold addTo keyX
  conv => rhs; rw [← List.take_append_drop es.length ks]
  unfold addK
  rw [List.zipWith_append (by simp; omega), List.take_of_length_le (Nat.le_refl es.length)]
  congr 1
  exact (addK_zero _ _ (by simp; omega)).symm

/-- What raised answers. -/
def raisedE (ks : List Nat) (es : List Int) : Int := if (addK ks (keyX es)).all (fun n => decide (n ≤ 64)) then 0 else 2

def raisedK (ks : List Nat) (es : List Int) : List Nat := if (addK ks (keyX es)).all (fun n => decide (n ≤ 64)) then addK ks (keyX es) else zeros

theorem addK_get {a b : List Nat} {k x y : Nat} (h : a[k]? = some x) (h' : b[k]? = some y) : (addK a b)[k]? = some (x + y) := by
  unfold addK; rw [List.getElem?_zipWith, h, h']

theorem keyX_get {es : List Int} {k : Nat} {y : Int} (h : es[k]? = some y) : (keyX es)[k]? = some y.toNat := by
  have h2 := (List.getElem?_eq_some_iff.1 h).1
  unfold keyX
  rw [List.getElem?_append_left (by simpa using h2), List.getElem?_map, h]; rfl

theorem keyX_high {es : List Int} {k : Nat} (h : es.length ≤ k) (hk : k < 512) : (keyX es)[k]? = some 0 := by
  unfold keyX
  rw [List.getElem?_append_right (by simpa using h), List.getElem?_replicate, if_pos (by simp; omega)]

set_option maxRecDepth 100000 in
set_option maxHeartbeats 800000 in
theorem raised_any (v : Value) (ks : List Nat) (es : List Int) (w : World) (h : Is w v es) (hs : Small es) (hk : ks.length = 512) (h64 : ∀ (j x : Nat), ks[j]? = some x → x ≤ 64) :
    Calls Tryz.prog 116 #[.agg (arr ks), v] w fun e w' => e = .returned (.tuple #[.agg (arr (raisedK ks es)), .int .i64 (raisedE ks es)]) ∧ Below w.heap.size w w' := by
  obtain ⟨ao, cap, rfl, hao, hca, q0⟩ := Row.flat h
  unfold maxLen at hca
  have h512 := hs.1
  have HS : Hid (Small es) := hs
  have HI : Hid (Is w (.slice ao es.length cap) es) := h
  have HK : Hid (ks.length = 512) := hk
  have H64 : Hid (∀ (j x : Nat), ks[j]? = some x → x ≤ 64) := h64
  clear h q0 hs h64 hk
  go_enter Tryz.func116, Tryz.ntmps116
  go_wp2
  rw [zero_cells]
  go_loopw [10] (fun i wr => ∃ k : Nat, k ≤ es.length ∧ i = .int .i64 k ∧ Ar wr w.heap.size (addTo ks es k) ∧ Ar wr (w.heap.size + 1) zeros ∧ (∀ (j x : Nat) (y : Int), j < k → ks[j]? = some x → es[j]? = some y → x + y.toNat ≤ 64) ∧ Below w.heap.size w wr) (fun i _ => es.length - (intOf i).toNat)
  case atStart =>
    refine ⟨0, by omega, rfl, ?_, ?_, fun j x y hj => absurd hj (by omega), ?_⟩
    · exact (Ar.new w ks).later (below_alloc _)
    · have := Ar.new (w.alloc (.cells (arr ks) 160)) zeros
      simpa using this
    · exact below_step (below_alloc _) (below_alloc _)
  case round =>
    obtain ⟨k, hk, rfl, hy, hz, hp, hbl⟩ := hrel
    have HZ : Hid (Ar wr (w.heap.size + 1) zeros) := hz
    have HY : Hid (Ar wr w.heap.size (addTo ks es k)) := hy
    have HP : Hid (∀ (j x : Nat) (y : Int), j < k → ks[j]? = some x → es[j]? = some y → x + y.toNat ≤ 64) := hp
    clear hz hy hp
    by_cases hlt : k < es.length
    · obtain ⟨g, off, y, rfl, hx1, hx2, hx3, hx4⟩ := (HI.out.kp (Kp.of_below hbl)).at hlt
      have HX : Hid (es[k]? = some y) := hx1
      obtain ⟨hx5, hx6⟩ := HS.out.2 k y hx1
      obtain ⟨x, hx⟩ : ∃ x, ks[k]? = some x := exists_get (by have := HK.out; omega)
      have hx64 := H64.out k x hx
      have HX2 : Hid (ks[k]? = some x) := hx
      have hcell := HY.out.cell (addTo_get hx hlt)
      have hfr := HY.out.frozen k
      have hk512 : k < 512 := by omega
      have hq := HY.out.put hbl (Nat.le_refl _) (k := k) (z := x + y.toNat) (V := (x : Int) + y) (by omega) (addTo_step HX2.out HX.out)
      have HQ : Hid (Ar (wr.setCell ⟨w.heap.size, k, none⟩ (.int .u8 ((x : Int) + y))) w.heap.size (addTo ks es (k + 1)) ∧ Below w.heap.size w (wr.setCell ⟨w.heap.size, k, none⟩ (.int .u8 ((x : Int) + y)))) := hq
      clear hx1 hx hq
      by_cases hgt : (64 : Int) < (x : Int) + y
      · have HZ2 : Hid (Ar (wr.setCell ⟨w.heap.size, k, none⟩ (.int .u8 ((x : Int) + y))) (w.heap.size + 1) zeros) := HZ.out.setOther (by omega)
        have hsz : Tryz.zeroCells160.size = 512 := Tryz.zeroCells160_size
        have HF : Hid (raisedK ks es = zeros ∧ raisedE ks es = 2) := by
          have : (addK ks (keyX es)).all (fun n => decide (n ≤ 64)) = false := by
            rw [List.all_eq_false]
            exact ⟨_, List.mem_of_getElem? (addK_get HX2.out (keyX_get HX.out)), by simp; omega⟩
          exact ⟨by simp [raisedK, this], by simp [raisedE, this]⟩
        go_wp2_with (first
          | (refine wpList_store_row rfl _ _ _ rfl (w.heap.size + 1) Tryz.zeroCells160 rfl rfl _ _ HZ2.out (by rw [info_arr, hsz]) (by rw [arr_size, len_zeros, hsz]) (by rw [zero_cells]; exact arr_one _) ?_))
        refine bodyPost_ret (results_ct_row rfl _ _ (w.heap.size + 1) _ Tryz.zeroCells160 (0, 0) rfl (setRow_heap _ _ _ _ _ _ HZ2.out) hsz) rfl ?_
        refine ⟨?_, below_setRowY HQ.out.2 (by omega)⟩
        rw [HF.out.1, HF.out.2, zero_cells]
        rfl
      · go_wp2
        go_roundw
        case rel =>
          refine ⟨k + 1, by omega, by go_num, HQ.out.1, HZ.out.setOther (by omega), fun j a b hj ha hb => ?_, HQ.out.2⟩
          by_cases hjk : j = k
          · subst hjk
            rw [HX2.out] at ha; rw [HX.out] at hb; cases ha; cases hb; omega
          · exact HP.out j a b (by omega) ha hb
        case measure => simp [intOf]; omega
    · have hke : k = es.length := by omega
      subst hke
      have hy := HY.out
      rw [addTo_full HK.out h512] at hy
      have HY2 : Hid (Ar wr w.heap.size (addK ks (keyX es))) := hy
      have hl2 : (addK ks (keyX es)).length = 512 := by
        have h1 := HK.out
        have h2 := keyX_len h512
        simp [addK, h1, h2]
      have HF : Hid (raisedK ks es = addK ks (keyX es) ∧ raisedE ks es = 0) := by
        have : (addK ks (keyX es)).all (fun n => decide (n ≤ 64)) = true := by
          rw [List.all_eq_true]
          intro z hz
          obtain ⟨j, hj⟩ := List.mem_iff_getElem?.1 hz
          have hj5 : j < 512 := by have := (List.getElem?_eq_some_iff.1 hj).1; omega
          obtain ⟨x, hx⟩ : ∃ x, ks[j]? = some x := exists_get (by have := HK.out; omega)
          by_cases hje : j < es.length
          · obtain ⟨y, hy⟩ : ∃ y, es[j]? = some y := ⟨es[j], List.getElem?_eq_getElem hje⟩
            rw [addK_get hx (keyX_get hy)] at hj
            cases hj
            simpa using HP.out j x y hje hx hy
          · rw [addK_get hx (keyX_high (by omega) hj5)] at hj
            cases hj
            simpa using H64.out j x hx
        exact ⟨by simp [raisedK, this], by simp [raisedE, this]⟩
      clear hy HY
      go_wp2_with (first
        | (refine wpList_load_row rfl _ _ rfl w.heap.size rfl _ _ _ _ HY2.out under_arr rfl (by rw [info_arr, arr_size, hl2]) ?_)
        | (refine wpList_store_row rfl _ _ _ rfl (w.heap.size + 1) (arr (addK ks (keyX es))) rfl rfl _ _ HZ.out (by rw [info_arr, arr_size, hl2]) (by rw [arr_size, arr_size, len_zeros, hl2]) (arr_one _) ?_))
      refine bodyPost_ret (results_ct_row rfl _ _ (w.heap.size + 1) _ (arr (addK ks (keyX es))) (0, 0) rfl (setRow_heap wr _ _ _ _ _ HZ.out) (by rw [arr_size, hl2])) rfl ?_
      refine ⟨?_, below_setRowY hbl (by omega)⟩
      rw [HF.out.1, HF.out.2]
      rfl

end Go.Proofs.YtlaenbdlgpepkaaGreatDoor

/- What adding answers, of the program's and of the document's. -/
namespace Go.Proofs.YtlaenbdlgpepkaaGreatDoor
open Go.RowKit

theorem made_zero (n : Nat) : (madeCells (Value.int .u32 0).cells (n * 1)).toList = (List.replicate n 0).map U := by
  have : (Value.int .u32 0).cells = #[Value.int .u32 0] := rfl
  rw [this, toList_madeCells_one]
  simp [U]

theorem Ow.made {w : World} {base n : Nat} {v : Value} (h : w.ownsRow base 38 1 v n (madeCells (Value.int .u32 0).cells (n * 1)).toList) : Ow w base v (List.replicate n 0) := by
  rw [made_zero] at h
  exact ⟨by intro x hx; have := (List.mem_replicate.1 hx).2; omega, by simpa using h⟩

set_option maxRecDepth 100000 in
set_option maxHeartbeats 800000 in
theorem sum_leY (v u : Value) (xs ys : List Nat) (w : World) (h : Sl w v xs) (h' : Sl w u ys) (hle : ys.length ≤ xs.length) (h64 : xs.length ≤ 64) :
    Calls Tryz.prog 125 #[v, u] w fun e w' => ∃ v' zs, e = .returned v' ∧ Ow w' w.heap.size v' zs ∧ val zs = val xs + val ys ∧ Below w.heap.size w w' := by
  obtain ⟨ao, cap, rfl, hao, hca, hcl⟩ := h.flat
  obtain ⟨bo, cap', rfl, hbo, hcb, hcl'⟩ := h'.flat
  unfold maxLen at hca hcb
  obtain ⟨i0, hi, hz0, hz1, hz2⟩ := info_parts info_u32
  have HS : Hid (Sl w (.slice ao xs.length cap) xs) := h
  have HS' : Hid (Sl w (.slice bo ys.length cap') ys) := h'
  clear h h' hcl hcl'
  go_enter Tryz.func125, Tryz.ntmps125
  go_wp2_with (first
    | (at_make; refine wpList_make_full _ rfl _ _ 35 rfl w.heap.size 38 i0 (.int .u32 0) 1 under_rowY hi hz0 hz1 .i64 .i64 _ _ (xs.length + 1) rfl rfl (by omega) (by omega) (by rw [hz2]; omega) (by unfold maxLen; omega) (Nat.le_refl _) ?_; intro w0 hown0 hgrow0))
  have hb0 : Below w.heap.size w w0 := (Below.refl _ _).grown hgrow0 (Nat.le_refl _) (by intro k hk; cases hk)
  obtain ⟨w1, hrun, ho1, hg1⟩ := run_copy_own (Ow.made hown0) (by simp) (HS.out.later hb0) (by omega)
  have hb1 : Below w.heap.size w w1 := hb0.grown hg1 hb0.size (by intro k hk; simp at hk; omega)
  have HO : Hid (Ow w1 w.heap.size (.slice (some ⟨w.heap.size, 0, none⟩) (xs.length + 1) (xs.length + 1)) (xs ++ [0])) := by
    have := ho1
    rw [List.drop_replicate, show xs.length + 1 - xs.length = 1 by omega] at this
    exact this
  clear hown0 hgrow0 ho1 hg1 hb0
  rw [hrun]
  go_wp2
  clear hrun
  go_loopw [6, 24] (fun c i wr => ∃ (k C : Nat) (Z : List Nat), k ≤ xs.length ∧ i = .int .i64 k ∧ c = .int .u64 C ∧ C ≤ 1 ∧ Z.length = k ∧ val Z + 4294967296 ^ k * C = val (xs.take k) + val (ys.take k) ∧
      Ow wr w.heap.size (.slice (some ⟨w.heap.size, 0, none⟩) (xs.length + 1) (xs.length + 1)) (Z ++ (xs.drop k ++ [0])) ∧ Below w.heap.size w wr) (fun _ i _ => xs.length - (intOf i).toNat)
  case atStart => exact ⟨0, 0, [], Nat.zero_le _, rfl, rfl, by omega, rfl, by simp [val], by simpa using HO.out, hb1⟩
  case round =>
    obtain ⟨k, C, Z, hk, rfl, rfl, hC, hZ, hval, hown, hbl⟩ := hrel
    have HV : Hid (val Z + 4294967296 ^ k * C = val (xs.take k) + val (ys.take k)) := hval
    have HZ : Hid (Z.length = k) := hZ
    have HW : Hid (Ow wr w.heap.size (.slice (some ⟨w.heap.size, 0, none⟩) (xs.length + 1) (xs.length + 1)) (Z ++ (xs.drop k ++ [0]))) := hown
    clear hval hZ hown HO hb1
    by_cases hlt : k < xs.length
    · obtain ⟨x, hx⟩ := exists_get hlt
      have hx32 : x < 4294967296 := HS.out.1.get hx
      have hd : xs.drop k = x :: xs.drop (k + 1) := drop_cons? hx
      have hw := HW.out
      rw [hd] at hw
      obtain ⟨hcell, hfr⟩ := hw.at (k := k) (get_mid HZ.out)
      have HX : Hid (xs.take (k + 1) = xs.take k ++ [x]) := take_snoc? hx
      have HW2 : Hid (Ow wr w.heap.size (.slice (some ⟨w.heap.size, 0, none⟩) (xs.length + 1) (xs.length + 1)) (Z ++ x :: (xs.drop (k + 1) ++ [0]))) := hw
      clear hw hd hx HW
      have HLX : Hid ((xs.take k).length = k) := by show _ = _; simp; omega
      by_cases hlt' : k < ys.length
      · obtain ⟨g, off, y, rfl, hy1, hy2, hy3⟩ := ((HS'.out.later hbl).flat').2 k hlt'
        have HY : Hid (ys.take (k + 1) = ys.take k ++ [y]) := take_snoc? hy1
        have HLY : Hid ((ys.take k).length = k) := by show _ = _; simp; omega
        have hp := HW2.out.put hbl (Nat.le_refl _) (by simp [HZ.out]; omega) (k := k) (z := (C + x + y) % 4294967296) (V := ((C : Int) + x + y) % 4294967296) (by omega) (by omega) (ys := Z ++ [(C + x + y) % 4294967296] ++ (xs.drop (k + 1) ++ [0])) (by rw [set_mid _ _ _ _ _ HZ.out]; simp)
        have HP : Hid (Ow (wr.setCell ⟨w.heap.size, k, none⟩ (.int .u32 (((C : Int) + x + y) % 4294967296))) w.heap.size (.slice (some ⟨w.heap.size, 0, none⟩) (xs.length + 1) (xs.length + 1)) (Z ++ [(C + x + y) % 4294967296] ++ (xs.drop (k + 1) ++ [0])) ∧ Below w.heap.size w (wr.setCell ⟨w.heap.size, k, none⟩ (.int .u32 (((C : Int) + x + y) % 4294967296)))) := hp
        clear hp hy1
        go_wp2
        go_roundw
        case rel =>
          refine ⟨k + 1, (C + x + y) / 4294967296, Z ++ [(C + x + y) % 4294967296], by omega, by go_num, by go_num, by omega, by simp [HZ.out], ?_, HP.out.1, HP.out.2⟩
          rw [HX.out, HY.out, val_snoc (xs.take k), val_snoc (ys.take k), HLX.out, HLY.out]
          exact add_step HZ.out HV.out
        case measure => simp [intOf]; omega
      · have HY : Hid (ys.take (k + 1) = ys.take k) := by show _ = _; rw [List.take_of_length_le (by omega), List.take_of_length_le (by omega)]
        have hp := HW2.out.put hbl (Nat.le_refl _) (by simp [HZ.out]; omega) (k := k) (z := (C + x + 0) % 4294967296) (V := ((C : Int) + x) % 4294967296) (by omega) (by omega) (ys := Z ++ [(C + x + 0) % 4294967296] ++ (xs.drop (k + 1) ++ [0])) (by rw [set_mid _ _ _ _ _ HZ.out]; simp)
        have HP : Hid (Ow (wr.setCell ⟨w.heap.size, k, none⟩ (.int .u32 (((C : Int) + x) % 4294967296))) w.heap.size (.slice (some ⟨w.heap.size, 0, none⟩) (xs.length + 1) (xs.length + 1)) (Z ++ [(C + x + 0) % 4294967296] ++ (xs.drop (k + 1) ++ [0])) ∧ Below w.heap.size w (wr.setCell ⟨w.heap.size, k, none⟩ (.int .u32 (((C : Int) + x) % 4294967296)))) := hp
        clear hp
        go_wp2
        go_roundw
        case rel =>
          refine ⟨k + 1, (C + x + 0) / 4294967296, Z ++ [(C + x + 0) % 4294967296], by omega, by go_num, by go_num, by omega, by simp [HZ.out], ?_, HP.out.1, HP.out.2⟩
          have := add_step (x := x) (y := 0) HZ.out HV.out
          rw [HX.out, HY.out, val_snoc (xs.take k), HLX.out]
          simpa using this
        case measure => simp [intOf]; omega
    · have hk' : k = xs.length := by omega
      have hw := HW.out
      rw [List.drop_of_length_le (by omega), List.nil_append] at hw
      obtain ⟨hcell, hfr⟩ := hw.at (k := k) (get_mid HZ.out)
      have hp := hw.put hbl (Nat.le_refl _) (by simp [HZ.out]; omega) (k := k) (z := C) (V := (C : Int)) rfl (by omega) (ys := Z ++ [C]) (set_mid _ _ _ _ _ HZ.out)
      subst hk'
      have HP : Hid (Ow (wr.setCell ⟨w.heap.size, xs.length, none⟩ (.int .u32 (C : Int))) w.heap.size (.slice (some ⟨w.heap.size, 0, none⟩) (xs.length + 1) (xs.length + 1)) (Z ++ [C]) ∧ Below w.heap.size w (wr.setCell ⟨w.heap.size, xs.length, none⟩ (.int .u32 (C : Int)))) := hp
      clear hp hw HW
      go_wp2
      go_ret
      refine ⟨_, Z ++ [C], rfl, HP.out.1, ?_, HP.out.2⟩
      have := HV.out
      rw [List.take_length, List.take_of_length_le hle] at this
      rw [val_snoc, HZ.out]; exact this

set_option maxRecDepth 100000 in
set_option maxHeartbeats 800000 in
theorem sum_ltY (v u : Value) (xs ys : List Nat) (w : World) (h : Sl w v xs) (h' : Sl w u ys) (hle : ys.length < xs.length) (h64 : xs.length ≤ 64) :
    Calls Tryz.prog 125 #[u, v] w fun e w' => ∃ v' zs, e = .returned v' ∧ Ow w' w.heap.size v' zs ∧ val zs = val xs + val ys ∧ Below w.heap.size w w' := by
  obtain ⟨ao, cap, rfl, hao, hca, hcl⟩ := h.flat
  obtain ⟨bo, cap', rfl, hbo, hcb, hcl'⟩ := h'.flat
  unfold maxLen at hca hcb
  obtain ⟨i0, hi, hz0, hz1, hz2⟩ := info_parts info_u32
  have HS : Hid (Sl w (.slice ao xs.length cap) xs) := h
  have HS' : Hid (Sl w (.slice bo ys.length cap') ys) := h'
  clear h h' hcl hcl'
  go_enter Tryz.func125, Tryz.ntmps125
  go_wp2_with (first
    | (at_make; refine wpList_make_full _ rfl _ _ 35 rfl w.heap.size 38 i0 (.int .u32 0) 1 under_rowY hi hz0 hz1 .i64 .i64 _ _ (xs.length + 1) rfl rfl (by omega) (by omega) (by rw [hz2]; omega) (by unfold maxLen; omega) (Nat.le_refl _) ?_; intro w0 hown0 hgrow0))
  have hb0 : Below w.heap.size w w0 := (Below.refl _ _).grown hgrow0 (Nat.le_refl _) (by intro k hk; cases hk)
  obtain ⟨w1, hrun, ho1, hg1⟩ := run_copy_own (Ow.made hown0) (by simp) (HS.out.later hb0) (by omega)
  have hb1 : Below w.heap.size w w1 := hb0.grown hg1 hb0.size (by intro k hk; simp at hk; omega)
  have HO : Hid (Ow w1 w.heap.size (.slice (some ⟨w.heap.size, 0, none⟩) (xs.length + 1) (xs.length + 1)) (xs ++ [0])) := by
    have := ho1
    rw [List.drop_replicate, show xs.length + 1 - xs.length = 1 by omega] at this
    exact this
  clear hown0 hgrow0 ho1 hg1 hb0
  rw [hrun]
  go_wp2
  clear hrun
  go_loopw [6, 24] (fun c i wr => ∃ (k C : Nat) (Z : List Nat), k ≤ xs.length ∧ i = .int .i64 k ∧ c = .int .u64 C ∧ C ≤ 1 ∧ Z.length = k ∧ val Z + 4294967296 ^ k * C = val (xs.take k) + val (ys.take k) ∧
      Ow wr w.heap.size (.slice (some ⟨w.heap.size, 0, none⟩) (xs.length + 1) (xs.length + 1)) (Z ++ (xs.drop k ++ [0])) ∧ Below w.heap.size w wr) (fun _ i _ => xs.length - (intOf i).toNat)
  case atStart => exact ⟨0, 0, [], Nat.zero_le _, rfl, rfl, by omega, rfl, by simp [val], by simpa using HO.out, hb1⟩
  case round =>
    obtain ⟨k, C, Z, hk, rfl, rfl, hC, hZ, hval, hown, hbl⟩ := hrel
    have HV : Hid (val Z + 4294967296 ^ k * C = val (xs.take k) + val (ys.take k)) := hval
    have HZ : Hid (Z.length = k) := hZ
    have HW : Hid (Ow wr w.heap.size (.slice (some ⟨w.heap.size, 0, none⟩) (xs.length + 1) (xs.length + 1)) (Z ++ (xs.drop k ++ [0]))) := hown
    clear hval hZ hown HO hb1
    by_cases hlt : k < xs.length
    · obtain ⟨x, hx⟩ := exists_get hlt
      have hx32 : x < 4294967296 := HS.out.1.get hx
      have hd : xs.drop k = x :: xs.drop (k + 1) := drop_cons? hx
      have hw := HW.out
      rw [hd] at hw
      obtain ⟨hcell, hfr⟩ := hw.at (k := k) (get_mid HZ.out)
      have HX : Hid (xs.take (k + 1) = xs.take k ++ [x]) := take_snoc? hx
      have HW2 : Hid (Ow wr w.heap.size (.slice (some ⟨w.heap.size, 0, none⟩) (xs.length + 1) (xs.length + 1)) (Z ++ x :: (xs.drop (k + 1) ++ [0]))) := hw
      clear hw hd hx HW
      have HLX : Hid ((xs.take k).length = k) := by show _ = _; simp; omega
      by_cases hlt' : k < ys.length
      · obtain ⟨g, off, y, rfl, hy1, hy2, hy3⟩ := ((HS'.out.later hbl).flat').2 k hlt'
        have HY : Hid (ys.take (k + 1) = ys.take k ++ [y]) := take_snoc? hy1
        have HLY : Hid ((ys.take k).length = k) := by show _ = _; simp; omega
        have hp := HW2.out.put hbl (Nat.le_refl _) (by simp [HZ.out]; omega) (k := k) (z := (C + x + y) % 4294967296) (V := ((C : Int) + x + y) % 4294967296) (by omega) (by omega) (ys := Z ++ [(C + x + y) % 4294967296] ++ (xs.drop (k + 1) ++ [0])) (by rw [set_mid _ _ _ _ _ HZ.out]; simp)
        have HP : Hid (Ow (wr.setCell ⟨w.heap.size, k, none⟩ (.int .u32 (((C : Int) + x + y) % 4294967296))) w.heap.size (.slice (some ⟨w.heap.size, 0, none⟩) (xs.length + 1) (xs.length + 1)) (Z ++ [(C + x + y) % 4294967296] ++ (xs.drop (k + 1) ++ [0])) ∧ Below w.heap.size w (wr.setCell ⟨w.heap.size, k, none⟩ (.int .u32 (((C : Int) + x + y) % 4294967296)))) := hp
        clear hp hy1
        go_wp2
        go_roundw
        case rel =>
          refine ⟨k + 1, (C + x + y) / 4294967296, Z ++ [(C + x + y) % 4294967296], by omega, by go_num, by go_num, by omega, by simp [HZ.out], ?_, HP.out.1, HP.out.2⟩
          rw [HX.out, HY.out, val_snoc (xs.take k), val_snoc (ys.take k), HLX.out, HLY.out]
          exact add_step HZ.out HV.out
        case measure => simp [intOf]; omega
      · have HY : Hid (ys.take (k + 1) = ys.take k) := by show _ = _; rw [List.take_of_length_le (by omega), List.take_of_length_le (by omega)]
        have hp := HW2.out.put hbl (Nat.le_refl _) (by simp [HZ.out]; omega) (k := k) (z := (C + x + 0) % 4294967296) (V := ((C : Int) + x) % 4294967296) (by omega) (by omega) (ys := Z ++ [(C + x + 0) % 4294967296] ++ (xs.drop (k + 1) ++ [0])) (by rw [set_mid _ _ _ _ _ HZ.out]; simp)
        have HP : Hid (Ow (wr.setCell ⟨w.heap.size, k, none⟩ (.int .u32 (((C : Int) + x) % 4294967296))) w.heap.size (.slice (some ⟨w.heap.size, 0, none⟩) (xs.length + 1) (xs.length + 1)) (Z ++ [(C + x + 0) % 4294967296] ++ (xs.drop (k + 1) ++ [0])) ∧ Below w.heap.size w (wr.setCell ⟨w.heap.size, k, none⟩ (.int .u32 (((C : Int) + x) % 4294967296)))) := hp
        clear hp
        go_wp2
        go_roundw
        case rel =>
          refine ⟨k + 1, (C + x + 0) / 4294967296, Z ++ [(C + x + 0) % 4294967296], by omega, by go_num, by go_num, by omega, by simp [HZ.out], ?_, HP.out.1, HP.out.2⟩
          have := add_step (x := x) (y := 0) HZ.out HV.out
          rw [HX.out, HY.out, val_snoc (xs.take k), HLX.out]
          simpa using this
        case measure => simp [intOf]; omega
    · have hk' : k = xs.length := by omega
      have hw := HW.out
      rw [List.drop_of_length_le (by omega), List.nil_append] at hw
      obtain ⟨hcell, hfr⟩ := hw.at (k := k) (get_mid HZ.out)
      have hp := hw.put hbl (Nat.le_refl _) (by simp [HZ.out]; omega) (k := k) (z := C) (V := (C : Int)) rfl (by omega) (ys := Z ++ [C]) (set_mid _ _ _ _ _ HZ.out)
      subst hk'
      have HP : Hid (Ow (wr.setCell ⟨w.heap.size, xs.length, none⟩ (.int .u32 (C : Int))) w.heap.size (.slice (some ⟨w.heap.size, 0, none⟩) (xs.length + 1) (xs.length + 1)) (Z ++ [C]) ∧ Below w.heap.size w (wr.setCell ⟨w.heap.size, xs.length, none⟩ (.int .u32 (C : Int)))) := hp
      clear hp hw HW
      go_wp2
      go_ret
      refine ⟨_, Z ++ [C], rfl, HP.out.1, ?_, HP.out.2⟩
      have := HV.out
      rw [List.take_length, List.take_of_length_le (Nat.le_of_lt hle)] at this
      rw [val_snoc, HZ.out]; exact this

theorem sum_anyY (v u : Value) (xs ys : List Nat) (w : World) (h : Sl w v xs) (h' : Sl w u ys) (h64 : xs.length ≤ 64) (h64' : ys.length ≤ 64) :
    Calls Tryz.prog 125 #[v, u] w fun e w' => ∃ v' zs, e = .returned v' ∧ Ow w' w.heap.size v' zs ∧ val zs = val xs + val ys ∧ Below w.heap.size w w' := by
  by_cases hle : ys.length ≤ xs.length
  · exact sum_leY v u xs ys w h h' hle h64
  · refine (sum_ltY u v ys xs w h' h (by omega) h64').mono ?_
    rintro e w' ⟨v', zs, he, ho, hv, hb⟩
    exact ⟨v', zs, he, ho, by omega, hb⟩

set_option maxHeartbeats 400000 in
theorem add_any (v u : Value) (xs ys : List Nat) (w : World) (h : Sl w v xs) (h' : Sl w u ys) :
    Calls Tryz.prog 71 #[v, u] w fun e w' => ∃ v', e = .returned (.tuple #[v', .int .i64 (addE xs ys)]) ∧ Ow w' w.heap.size v' (addL xs ys) ∧ Below w.heap.size w w' := by
  go_enter Tryz.func71, Tryz.ntmps71
  go_wp2_with fail
  refine (right_any v xs _ h).mono ?_
  rintro e w1 ⟨rfl, rfl⟩
  cases hr : rightB xs
  · go_wp2
    go_ret2
    exact ⟨_, ret2i (by simp [addE, hr]), by simp [addL, hr]; exact Ow.nil _ _, Below.refl _ _⟩
  go_wp2_with fail
  refine (right_any u ys _ h').mono ?_
  rintro e w1 ⟨rfl, rfl⟩
  cases hr' : rightB ys
  · go_wp2
    go_ret2
    exact ⟨_, ret2i (by simp [addE, hr']), by simp [addL, hr']; exact Ow.nil _ _, Below.refl _ _⟩
  go_wp2_with fail
  refine (sum_anyY v u xs ys _ h h' (length_le_of_right hr) (length_le_of_right hr')).mono ?_
  rintro e w2 ⟨v2, zs, rfl, ho, hv, hb⟩
  have HV : Hid (val zs = val xs + val ys) := hv
  clear hv
  go_wp2_with fail
  refine (inBounds_any v2 zs _ _ ho).mono ?_
  rintro e w3 ⟨v3, rfl, ho3, rfl⟩
  rw [HV.out] at ho3 ⊢
  go_wp2
  go_ret2
  exact ⟨_, ret2i (by simp [addE, hr, hr']), by simp only [addL, hr, hr', Bool.and_self, if_true]; exact ho3, hb⟩

end Go.Proofs.YtlaenbdlgpepkaaGreatDoor

/- Rows of numbers that a call owns. -/
namespace Go.Proofs.YtlaenbdlgpepkaaGreatDoor
open Go.RowKit

theorem Ow.held {w w' : World} {base : Nat} {v : Value} {xs : List Nat} {row : Option Nat} (h : Ow w base v xs) (hg : w.grownBy w' row) (hne : v.ownBlock = none ∨ v.ownBlock ≠ row) : Ow w' base v xs := ⟨h.1, h.2.kept hg hne⟩

theorem Ow.since {w w' : World} {base : Nat} {v : Value} {xs : List Nat} (h : Ow w base v xs) (hb : Below w.heap.size w w') : Ow w' base v xs :=
  h.held (row := none) ⟨hb.os, hb.tape, hb.output, hb.size, fun k hk _ => hb.block k hk⟩ (by cases hv : v.ownBlock <;> simp)

theorem Ow.slice {w : World} {base : Nat} {v : Value} {xs : List Nat} (h : Ow w base v xs) : ∃ ao n cap, v = .slice ao n cap := by
  rcases h.2.2 with ⟨rfl, hn⟩ | ⟨g, cap, cur, rfl, _⟩
  · exact ⟨_, _, _, rfl⟩
  · exact ⟨_, _, _, rfl⟩

/-- The slice value v is the call's own and holds the monomials p, whose rows are the call's own too. -/
def OM (w : World) (base : Nat) (v : Value) (p : List Mn) : Prop :=
  ∃ cs : List (Value × Value), cs.length = p.length ∧ (∀ (i : Nat) (c : Value × Value) (m : Mn), cs[i]? = some c → p[i]? = some m → Ow w base c.1 m.1 ∧ OwI w base c.2 m.2) ∧
    w.ownsRow base 37 2 v p.length (cs.flatMap fun c => [c.1, c.2])

theorem flat2_get {cs : List (Value × Value)} : ∀ {i : Nat} {c : Value × Value}, cs[i]? = some c → (cs.flatMap fun c => [c.1, c.2])[i * 2]? = some c.1 ∧ (cs.flatMap fun c => [c.1, c.2])[i * 2 + 1]? = some c.2 := by
  induction cs with
  | nil => intro i c h; simp at h
  | cons a r ih =>
    intro i c h
    cases i with
    | zero => simp at h; subst h; simp
    | succ i =>
      rw [List.getElem?_cons_succ] at h
      obtain ⟨h1, h2⟩ := ih h
      rw [List.flatMap_cons]
      refine ⟨?_, ?_⟩
      · rw [show (i + 1) * 2 = i * 2 + 1 + 1 by omega]; simpa using h1
      · rw [show (i + 1) * 2 + 1 = i * 2 + 1 + 1 + 1 by omega]; simpa using h2

theorem OM.ms {w : World} {base : Nat} {v : Value} {p : List Mn} (h : OM w base v p) : Ms w v p := by
  obtain ⟨cs, hl, hc, ho⟩ := h
  have ho2 := ho
  rcases ho2.2 with ⟨rfl, hn⟩ | ⟨g, cap, cur, rfl, hb, hg, hcap, hm, hs, ht⟩
  · exact ⟨none, 0, by rw [hn], by omega, by simp [maxLen], by omega⟩
  · refine ⟨_, cap, rfl, hcap, hm, fun _ => ⟨g, 0, rfl, (Array.getElem?_eq_some_iff.1 hg).1, ?_⟩⟩
    intro k m hk
    have hlt : k < p.length := (List.getElem?_eq_some_iff.1 hk).1
    have hck : cs[k]? = some cs[k] := List.getElem?_eq_getElem (by omega)
    obtain ⟨h1, h2⟩ := flat2_get hck
    obtain ⟨o1, o2⟩ := hc k _ m hck hk
    refine ⟨cs[k].1, cs[k].2, ?_, ?_, o1.sl, o2.is⟩
    · rw [Nat.zero_add, World.ownsRow.cellAt ho2 (k * 2) (by omega)]
      have := (List.getElem?_eq_some_iff.1 h1)
      obtain ⟨ha, hb'⟩ := this
      simp [← hb']
    · rw [Nat.zero_add, World.ownsRow.cellAt ho2 (k * 2 + 1) (by omega)]
      have := (List.getElem?_eq_some_iff.1 h2)
      obtain ⟨ha, hb'⟩ := this
      simp [← hb']

theorem OM.nil (w : World) (base : Nat) : OM w base (.slice none 0 0) [] := ⟨[], rfl, fun i c m h => (by simp at h), World.ownsRow_nil _ _ _ _⟩

theorem OM.slice {w : World} {base : Nat} {v : Value} {p : List Mn} (h : OM w base v p) : ∃ ao cap, v = .slice ao p.length cap := by
  obtain ⟨cs, hl, hc, ho⟩ := h
  rcases ho.2 with ⟨rfl, hn⟩ | ⟨g, cap, cur, rfl, _⟩
  · exact ⟨_, 0, by rw [hn]⟩
  · exact ⟨_, cap, rfl⟩

theorem OM.later {w w' : World} {base : Nat} {v : Value} {p : List Mn} (h : OM w base v p) (hb : Below w.heap.size w w') : OM w' base v p := by
  obtain ⟨cs, hl, hc, ho⟩ := h
  refine ⟨cs, hl, fun i c m h1 h2 => ⟨(hc i c m h1 h2).1.since hb, (hc i c m h1 h2).2.later hb⟩, ?_⟩
  exact World.ownsRow.kept (row := none) ho ⟨hb.os, hb.tape, hb.output, hb.size, fun k hk _ => hb.block k hk⟩ (by cases hv : v.ownBlock <;> simp)

theorem info_mono : (Tryz.prog.info? 37).map (fun i => (i.zero, i.size, i.bytes)) = some (some (.agg #[.slice none 0 0, .slice none 0 0]), 2, 48) := by kernel_rfl

theorem under_monos : Tryz.prog.underlying 31 = some (.slice 37) := by kernel_rfl

end Go.Proofs.YtlaenbdlgpepkaaGreatDoor
