/- Texts of the proof, one behind the other. -/
import Derived.Test.YtdjmjhlbjcgoiaaGreatDoorOwn5
import Derived.Test.YtdjmjhlbjcgoiaaGreatDoorOwn4
/- The calls of the examples. -/
namespace Go.Proofs.YtdjmjhlbjcgoiaaGreatDoor
open Go.RowKit Go.Maps Go.BigFrame

theorem b0 {w : World} : Below w.heap.size w w := Below.refl _ _
theorem b1 {w w' : World} {o : Obj} (h : Below w.heap.size w w') : Below w.heap.size w (w'.alloc o) := below_step h (below_alloc o)

def EIs (w : World) (g : Nat) : Nat → List Int → Prop
  | _, [] => True
  | o, x :: r => EI w g o x ∧ EIs w g (o + 1) r

theorem EIs.get {w : World} {g : Nat} : ∀ {p : List Int} {o k : Nat} {m : Int}, EIs w g o p → p[k]? = some m → EI w g (o + k * 1) m
  | [], _, _, _, _, h => by simp at h
  | x :: r, o, 0, m, h, hk => by
    simp at hk
    subst hk
    exact h.1
  | x :: r, o, k + 1, m, h, hk => by
    have := EIs.get h.2 (k := k) (by simpa using hk)
    rw [show o + (k + 1) * 1 = o + 1 + k * 1 by omega]
    exact this

theorem is_lit {w : World} {g : Nat} {p : List Int} (hg : g < w.heap.size) (hl : p.length ≤ 9) (h : EIs w g 0 p) : Is w (.slice (some ⟨g, 0, none⟩) p.length p.length) p := by
  refine ⟨_, p.length, rfl, Nat.le_refl _, by unfold maxLen; omega, fun _ => ⟨g, 0, rfl, hg, fun k m hk => ?_⟩⟩
  have := h.get hk
  rwa [Nat.zero_add] at this ⊢

theorem cell_newg {w : World} {t : TypeId} {vs : Array Value} {g k : Nat} {v : Value} (hg : g = w.heap.size) (hv : vs[k]? = some v) : (w.alloc (.cells vs t)).cell? ⟨g, k, none⟩ = some v := by
  subst hg
  exact cell_new hv

theorem ei {w : World} {g o : Nat} {x : Int} (h1 : -9223372036854775808 ≤ x) (h2 : x ≤ 9223372036854775807) (h : w.cell? ⟨g, o, none⟩ = some (.int .i64 x)) : EI w g o x := ⟨h1, h2, h⟩

end Go.Proofs.YtdjmjhlbjcgoiaaGreatDoor

/- What binds make of a right term is right; two rows of binds in one. -/
namespace Go.Proofs.YtdjmjhlbjcgoiaaGreatDoor
open Go.RowKit Go.Maps

theorem codeD_ge {sig : List Sy} (ha : ArOk sig) {c e : Int} (h : codeD sig c = some e) : -1 ≤ e := by
  unfold codeD at h
  split at h
  · cases h
  · split at h
    · cases h; omega
    · cases hs : sig[c.toNat]? with
      | none => rw [hs] at h; cases h
      | some s =>
        rw [hs] at h
        have := ha s (List.mem_of_getElem? hs)
        simp only [Option.some.injEq] at h
        omega

theorem firstT_cons (sig : List Sy) (m : Int) (i : Nat) (c : Int) (t : List Int) : firstT sig m i (c :: t) = (match codeD sig c with | none => (0, 30) | some e => if m + e = 0 then ((i : Int) + 1, 0) else firstT sig (m + e) (i + 1) t) := rfl

theorem firstT_le (sig : List Sy) : ∀ (t : List Int) (m : Int) (i : Nat), (firstT sig m i t).2 = 0 → (firstT sig m i t).1 ≤ (i : Int) + t.length
  | [], m, i, h => by simp [firstT] at h
  | c :: t, m, i, h => by
    rw [firstT_cons] at h ⊢
    cases hc : codeD sig c with
    | none => rw [hc] at h; simp at h
    | some e =>
      rw [hc] at h
      simp only at h ⊢
      split
      · simp only [List.length_cons]; omega
      · rename_i hm
        rw [if_neg hm] at h
        have := firstT_le sig t (m + e) (i + 1) h
        simp only [List.length_cons]
        omega

theorem row_first {sig : List Sy} {t : List Int} : rowE sig t = 0 ↔ firstT sig 1 0 t = ((t.length : Int), 0) := by
  unfold rowE
  constructor
  · intro h
    split at h
    · cases h
    · rename_i hn
      have h1 := firstT_le sig t 1 0 h
      have h2 : ¬ (firstT sig 1 0 t).1 < (t.length : Int) := fun h3 => hn ⟨h, h3⟩
      refine Prod.ext ?_ h
      show (firstT sig 1 0 t).1 = _
      omega
  · intro h
    rw [h]
    simp

/-- A row that closes d terms, ahead of another one. -/
theorem first_app {sig : List Sy} (ha : ArOk sig) : ∀ (x : List Int) (d : Int) (j : Nat), 1 ≤ d → firstT sig d j x = ((j : Int) + x.length, 0) → ∀ (m : Int) (i : Nat) (r : List Int), d ≤ m → firstT sig m i (x ++ r) = if m = d then ((i : Int) + x.length, 0) else firstT sig (m - d) (i + x.length) r
  | [], d, j, hd, h, m, i, r, hm => by simp [firstT] at h
  | c :: x, d, j, hd, h, m, i, r, hm => by
    rw [List.cons_append]
    rw [firstT_cons] at h ⊢
    cases hc : codeD sig c with
    | none => rw [hc] at h; simp at h
    | some e =>
      rw [hc] at h
      simp only at h ⊢
      have he := codeD_ge ha hc
      by_cases h0 : d + e = 0
      · rw [if_pos h0] at h
        have hx : x = [] := by
          have := congrArg Prod.fst h
          simp only [List.length_cons] at this
          exact List.eq_nil_of_length_eq_zero (by omega)
        subst hx
        by_cases hmd : m = d
        · rw [if_pos (by omega), if_pos hmd]; simp
        · rw [if_neg (by omega), if_neg hmd, show m + e = m - d by omega]; simp
      · rw [if_neg h0] at h
        rw [if_neg (by omega), first_app ha x (d + e) (j + 1) (by omega) (by rw [h]; simp only [List.length_cons, Prod.mk.injEq, and_true]; omega) (m + e) (i + 1) r (by omega)]
        by_cases hmd : m = d
        · rw [if_pos hmd, if_pos (by omega)]
          simp only [List.length_cons, Prod.mk.injEq, and_true]
          omega
        · rw [if_neg hmd, if_neg (by omega), show m + e - (d + e) = m - d by omega, List.length_cons, show i + 1 + x.length = i + (x.length + 1) by omega]

/-- The binds ahead of a number; those behind it. -/
def pre (x : Int) (r : List Bd) : List Bd := r.takeWhile fun c => decide (c.1 < x)
def skipE (x : Int) : List Bd → List Bd
  | [] => []
  | c :: r => if c.1 = x then r else c :: r
def post (x : Int) (r : List Bd) : List Bd := skipE x (r.dropWhile fun c => decide (c.1 < x))

end Go.Proofs.YtdjmjhlbjcgoiaaGreatDoor

/- The tree of a right term. -/
namespace Go.Proofs.YtdjmjhlbjcgoiaaGreatDoor
open Go.RowKit Go.Maps Go.Shelf

attribute [local go_sem] Oper.semAt_some

/-- How many arguments a code has. -/
def arN (sig : List Sy) (c : Int) : Nat := match sig[c.toNat]? with | some s => s.2.toNat | none => 0

/-- A code more, from the back to the front: what begins first is the last one. -/
def growStep (sig : List Sy) (st : List Tr) (c : Int) : List Tr := if c < 0 then st ++ [.var] else st.take (st.length - arN sig c) ++ [.app (st.drop (st.length - arN sig c)).reverse]

def growR (sig : List Sy) : List Int → List Tr
  | [] => []
  | c :: u => growStep sig (growR sig u) c

theorem sizes_rev : ∀ ts : List Tr, sizes ts.reverse = sizes ts
  | [] => rfl
  | t :: ts => by
    rw [List.reverse_cons, sizes_app, sizes_rev ts]
    simp only [sizes]
    omega

theorem growStep_sizes (sig : List Sy) (st : List Tr) (c : Int) : sizes (growStep sig st c) = sizes st + 1 := by
  unfold growStep
  split
  · rw [sizes_app]; simp [sizes, Tr.size]
  · have h1 := sizes_app (st.take (st.length - arN sig c)) (st.drop (st.length - arN sig c))
    rw [List.take_append_drop] at h1
    rw [sizes_app]
    simp only [sizes, Tr.size, sizes_rev]
    omega

theorem growR_sizes (sig : List Sy) : ∀ u : List Int, sizes (growR sig u) = u.length
  | [] => rfl
  | c :: u => by
    show sizes (growStep sig (growR sig u) c) = _
    rw [growStep_sizes, growR_sizes sig u, List.length_cons]

theorem codeD_ar {sig : List Sy} (ha : ArOk sig) {c e : Int} (h : codeD sig c = some e) (hc : ¬ c < 0) : e = (arN sig c : Int) - 1 ∧ c.toNat < sig.length := by
  unfold codeD at h
  by_cases h9 : c < -1048576
  · omega
  · rw [if_neg h9, if_neg hc] at h
    cases hs : sig[c.toNat]? with
    | none => rw [hs] at h; cases h
    | some s =>
      rw [hs] at h
      have := ha s (List.mem_of_getElem? hs)
      simp only [Option.some.injEq] at h
      unfold arN
      rw [hs]
      simp only
      exact ⟨by omega, (List.getElem?_eq_some_iff.1 hs).1⟩

/-- The terms that a row is made of, and that each code finds its arguments. -/
theorem growR_len {sig : List Sy} (ha : ArOk sig) : ∀ (u : List Int) (m : Int) (i : Nat), 1 ≤ m → firstT sig m i u = ((i : Int) + u.length, 0) → ((growR sig u).length : Int) = m
  | [], m, i, hm, h => by simp [firstT] at h
  | c :: u, m, i, hm, h => by
    rw [firstT_cons] at h
    cases hc : codeD sig c with
    | none => rw [hc] at h; simp at h
    | some e =>
      rw [hc] at h
      simp only at h
      have he := codeD_ge ha hc
      have hlen : ((growR sig u).length : Int) = m + e := by
        by_cases h0 : m + e = 0
        · rw [if_pos h0] at h
          have := congrArg Prod.fst h
          simp only [List.length_cons] at this
          obtain rfl : u = [] := List.eq_nil_of_length_eq_zero (by omega)
          show ((0 : Nat) : Int) = _
          omega
        · rw [if_neg h0] at h
          exact growR_len ha u (m + e) (i + 1) (by omega) (by rw [h]; simp only [List.length_cons, Prod.mk.injEq, and_true]; omega)
      show ((growStep sig (growR sig u) c).length : Int) = m
      unfold growStep
      by_cases hv : c < 0
      · rw [if_pos hv, List.length_append]
        have he1 : e = -1 := by
          have hc2 := hc
          unfold codeD at hc2
          by_cases h9 : c < -1048576
          · rw [if_pos h9] at hc2; cases hc2
          · rw [if_neg h9, if_pos hv] at hc2; cases hc2; rfl
        simp only [List.length_cons, List.length_nil]
        omega
      · rw [if_neg hv, List.length_append, List.length_take]
        have := (codeD_ar ha hc hv).1
        simp only [List.length_cons, List.length_nil]
        omega

/-- Each code of a right term: it is one, and its arguments are there. -/
theorem grow_code {sig : List Sy} (ha : ArOk sig) : ∀ (p : List Int) (c : Int) (u : List Int) (m : Int) (i : Nat), 1 ≤ m → firstT sig m i (p ++ c :: u) = ((i : Int) + (p ++ c :: u).length, 0) → ¬ c < 0 → c.toNat < sig.length ∧ arN sig c ≤ (growR sig u).length
  | [], c, u, m, i, hm, h, hv => by
    rw [List.nil_append] at h
    have hl := growR_len ha (c :: u) m i hm h
    rw [firstT_cons] at h
    cases hc : codeD sig c with
    | none => rw [hc] at h; simp at h
    | some e =>
      rw [hc] at h
      simp only at h
      obtain ⟨k1, k2⟩ := codeD_ar ha hc hv
      refine ⟨k2, ?_⟩
      by_cases h0 : m + e = 0
      · omega
      · rw [if_neg h0] at h
        have := growR_len ha u (m + e) (i + 1) (by have := codeD_ge ha hc; omega) (by rw [h]; simp only [List.length_cons, Prod.mk.injEq, and_true]; omega)
        omega
  | d :: p, c, u, m, i, hm, h, hv => by
    rw [List.cons_append, firstT_cons] at h
    cases hc : codeD sig d with
    | none => rw [hc] at h; simp at h
    | some e =>
      rw [hc] at h
      simp only at h
      by_cases h0 : m + e = 0
      · rw [if_pos h0] at h
        have := congrArg Prod.fst h
        simp at this
        omega
      · rw [if_neg h0] at h
        exact grow_code ha p c u (m + e) (i + 1) (by have := codeD_ge ha hc; omega) (by rw [h]; simp only [List.length_cons, Prod.mk.injEq, and_true]; omega) hv

theorem grow_one {sig : List Sy} (ha : ArOk sig) {t : List Int} (h : rowE sig t = 0) : ∃ T, growR sig t = [T] ∧ T.size = t.length := by
  have h1 := growR_len ha t 1 0 (by omega) (by rw [row_first.1 h]; simp)
  have h2 := growR_sizes sig t
  cases hg : growR sig t with
  | nil => rw [hg] at h1; simp at h1
  | cons T r =>
    rw [hg] at h1 h2
    obtain rfl : r = [] := List.eq_nil_of_length_eq_zero (by simp at h1; omega)
    exact ⟨T, rfl, by simpa [sizes] using h2⟩

theorem own_rdv {w : World} {base : Nat} {e : TypeId} {v : Value} {vals : List Value} (h : w.ownsRow base e 1 v vals.length vals) : RdV w v vals := by
  rcases h.2 with ⟨rfl, hn⟩ | ⟨g, cap, cur, hv, hb, hg, hc, hm, hs, ht⟩
  · exact .inl ⟨rfl, List.eq_nil_of_length_eq_zero hn⟩
  · subst hv
    refine .inr ⟨g, 0, cap, rfl, fun j u hj => ?_⟩
    have hlt := (List.getElem?_eq_some_iff.1 hj).1
    rw [Nat.zero_add, World.ownsRow.cellAt h j (by omega)]
    exact hj

theorem own_cut {w : World} {base : Nat} {e : TypeId} {ao : Option Addr} {n cap k : Nat} {vals : List Value} (h : w.ownsRow base e 1 (.slice ao n cap) n vals) (hk : k ≤ n) : w.ownsRow base e 1 (.slice ao k cap) k (vals.take k) := by
  have h1 := h.1
  refine ⟨by rw [List.length_take]; omega, ?_⟩
  rcases h.2 with ⟨hv, hn⟩ | ⟨g, cp, cur, hv, hb, hg, hc, hm, hs, ht⟩
  · simp only [Value.slice.injEq] at hv
    obtain ⟨rfl, rfl, rfl⟩ := hv
    obtain rfl : k = 0 := by omega
    exact .inl ⟨rfl, rfl⟩
  · simp only [Value.slice.injEq] at hv
    obtain ⟨rfl, _, rfl⟩ := hv
    refine .inr ⟨g, cap, cur, rfl, hb, hg, by omega, hm, hs, ?_⟩
    rw [Nat.mul_one] at ht ⊢
    rw [← ht, List.take_take, Nat.min_eq_left hk]

theorem frozen_same {w w' : World} {a : Addr} (h : w'.heap[a.block]? = w.heap[a.block]?) : w'.frozen? a = w.frozen? a := by
  unfold World.frozen?
  rw [h]

/-- Where grow stands. -/
structure GI (w W : World) (sv v gv : Value) (vals : List Value) (st : List Tr) : Prop where
  box : W.cell? ⟨w.heap.size + 1, 0, none⟩ = some gv
  frz : W.frozen? ⟨w.heap.size + 1, 0, none⟩ = false
  sigb : W.cell? ⟨w.heap.size, 0, none⟩ = some sv
  bck : W.cell? ⟨w.heap.size + 2, 0, none⟩ = some v
  own : W.ownsRow (w.heap.size + 3) 104 1 gv vals.length vals
  tv : TVl W (fun b => w.heap.size + 3 ≤ b ∧ b < W.heap.size ∧ gv.ownBlock ≠ some b) vals st
  bel : Below w.heap.size w W
  sz : w.heap.size + 3 ≤ W.heap.size

theorem cell_putObj {W : World} {l : Nat} {o o' : Obj} {a : Addr} {x : Value} (hl : W.heap[l]? = some o) (ho : o.isCells = false) (h : W.cell? a = some x) : (W.putObj l o').cell? a = some x := by
  have hne : a.block ≠ l := by
    rintro rfl
    unfold World.cell? at h
    rw [hl] at h
    cases o <;> simp_all [Obj.isCells]
  rw [World.cell?_of_block (World.putObj_heap_other hne)]
  exact h

theorem GI.put {w W : World} {sv v gv : Value} {vals : List Value} {st : List Tr} (h : GI w W sv v gv vals st) {l : Nat} {o o' : Obj} (hl : w.heap.size + 3 ≤ l) (ho : W.heap[l]? = some o) (hc : o.isCells = false) : GI w (W.putObj l o') sv v gv vals st := by
  have hsz : (W.putObj l o').heap.size = W.heap.size := by simp [World.putObj]
  refine ⟨cell_putObj ho hc h.box, ?_, cell_putObj ho hc h.sigb, cell_putObj ho hc h.bck, ownsRow_putObj h.own _ ho hc, h.tv.keep (fun b o x _ hx => cell_putObj ho hc hx) (fun b hb => ⟨hb.1, by rw [hsz]; exact hb.2.1, hb.2.2⟩), ?_, by rw [hsz]; exact h.sz⟩
  · rw [frozen_same (World.putObj_heap_other (by simp only; omega))]
    exact h.frz
  · exact ⟨h.bel.os, h.bel.tape, h.bel.output, by rw [hsz]; exact h.bel.size, fun k hk => (World.putObj_heap_other (by omega)).trans (h.bel.block k hk)⟩

/-- What changed nothing that lay changes nothing here. -/
theorem GI.later {w W W' : World} {sv v gv : Value} {vals : List Value} {st : List Tr} (h : GI w W sv v gv vals st) (hb : Below W.heap.size W W') : GI w W' sv v gv vals st := by
  have hk := Kp.of_below hb
  exact ⟨hk.cell _ _ h.box, by rw [frozen_same (hb.block _ (by have := h.sz; simp only; omega))]; exact h.frz, hk.cell _ _ h.sigb, hk.cell _ _ h.bck, ownsRow_later h.own hb,
    h.tv.keep (fun b o x _ hx => hk.cell _ _ hx) (fun b hb2 => ⟨hb2.1, Nat.lt_of_lt_of_le hb2.2.1 hb.size, hb2.2.2⟩), below_step h.bel hb, Nat.le_trans h.sz hb.size⟩

/-- A tree joined, and the box set. -/
theorem GI.push (ty : TypeId) {w W W1 : World} {sv v gv u : Value} {vals : List Value} {st : List Tr} {k : Nat} {T : Tr} {ao : Option Addr} {cap : Nat} (h : GI w W sv v gv vals st) (hgv : gv = .slice ao vals.length cap) (hk : k ≤ vals.length) (hb : Below W.heap.size W W1)
    (hT : TV W1 (fun b => w.heap.size + 3 ≤ b ∧ b < W1.heap.size ∧ gv.ownBlock ≠ some b) u T) (hl : (k + 1) * 16 ≤ 140737488355328) :
    ∃ g cp W2, (Builtin.append_ #[147, 147] ty #[.slice ao k cap, .slice (some ⟨W1.heap.size, 0, none⟩) 1 1]).run Tryz.prog (W1.alloc (.cells #[u] 104)) = .ok (.slice (some ⟨g, 0, none⟩) (k + 1) cp) W2 ∧
      W2.cell? ⟨w.heap.size + 1, 0, none⟩ = some gv ∧ W2.frozen? ⟨w.heap.size + 1, 0, none⟩ = false ∧
      GI w (W2.setCell ⟨w.heap.size + 1, 0, none⟩ (.slice (some ⟨g, 0, none⟩) (k + 1) cp)) sv v (.slice (some ⟨g, 0, none⟩) (k + 1) cp) (vals.take k ++ [u]) (st.take k ++ [T]) ∧ KeepsFrom (w.heap.size + 3) W (W2.setCell ⟨w.heap.size + 1, 0, none⟩ (.slice (some ⟨g, 0, none⟩) (k + 1) cp)) := by
  obtain ⟨i0, hi, hz0, hz1, hz2⟩ := info_parts info_tree
  have ha := below_alloc (w := W1) (.cells #[u] 104)
  have hba := below_step hb ha
  have hown := h.own
  rw [hgv] at hown
  have hcut := own_cut (ownsRow_later hown hba) hk
  have hsz := h.sz
  obtain ⟨v', W2, hr, h2, h3, _, h5⟩ := run_append_own_at (P := Tryz.prog) (W1.alloc (.cells #[u] 104)) (w.heap.size + 3) 147 ty 104 i0 _ 1 16 under_trees hi hz0 hz1 hz2 rfl (by decide) (.slice ao k cap) k (vals.take k) hcut ⟨W1.heap.size, 0, none⟩ 1 1 [u] rfl
    (fun j y hj => by
      rw [Addr.add_lit, Nat.zero_add]
      cases j with
      | zero =>
        simp at hj
        subst hj
        rw [cell_of_row _ _ _ _ _ _ (heap_alloc_new _ _)]
        rfl
      | succ j => simp at hj) (fun y hy => by simp at hy; subst hy; exact hT.ifv.one) (by unfold maxLen; omega) (by omega) (Nat.le_trans hsz hba.size)
  obtain ⟨g, cp, rfl⟩ := own_form h2 (by omega)
  have hge := own_ge h2
  -- the block of the slice, before
  have hob : (Value.slice ao k cap).ownBlock = gv.ownBlock := by rw [hgv]; cases ao <;> rfl
  rw [hob] at h3 h5
  have hgb : ∀ j, gv.ownBlock = some j → w.heap.size + 3 ≤ j := fun j hj => own_blk h.own hj
  have hold : ∀ b, b < w.heap.size + 3 → W2.heap[b]? = W.heap[b]? := fun b hb2 => by
    rw [h3.block b (Nat.lt_of_lt_of_le (Nat.lt_of_lt_of_le hb2 hsz) hba.size) (fun e => by have := hgb b e.symm; omega)]
    exact hba.block b (Nat.lt_of_lt_of_le hb2 hsz)
  have hbox : W2.cell? ⟨w.heap.size + 1, 0, none⟩ = some gv := by
    rw [World.cell?_of_block (hold _ (by simp only; omega))]
    exact h.box
  have hfrz : W2.frozen? ⟨w.heap.size + 1, 0, none⟩ = false := by
    rw [frozen_same (hold _ (by simp only; omega))]
    exact h.frz
  -- cells away from the slice's block stay
  have hfar : ∀ (b o : Nat) (x : Value), w.heap.size + 3 ≤ b → b < (W1.alloc (.cells #[u] 104)).heap.size → gv.ownBlock ≠ some b → (W1.alloc (.cells #[u] 104)).cell? ⟨b, o, none⟩ = some x → (W2.setCell ⟨w.heap.size + 1, 0, none⟩ (.slice (some ⟨g, 0, none⟩) (k + 1) cp)).cell? ⟨b, o, none⟩ = some x := fun b o x hb1 hb2 hb3 hx => by
    rw [World.cell?_setCell_far _ _ _ _ (by simp only; omega), World.cell?_of_block (h3.block b hb2 (fun e => hb3 e.symm))]
    exact hx
  have hne : ∀ b, b < (W1.alloc (.cells #[u] 104)).heap.size → gv.ownBlock ≠ some b → g ≠ b := fun b hb1 hb2 e => by
    subst e
    rcases h5 with h5 | h5
    · exact hb2 (by rw [← h5]; rfl)
    · simp only [Value.ownBlock, Option.some.injEq] at h5
      omega
  have hs2 : (W2.setCell ⟨w.heap.size + 1, 0, none⟩ (.slice (some ⟨g, 0, none⟩) (k + 1) cp)).heap.size = W2.heap.size := by simp [World.setCell]
  have hsw : W.heap.size ≤ (W1.alloc (.cells #[u] 104)).heap.size := hba.size
  have hvl : (vals.take k ++ [u]).length = k + 1 := by rw [List.length_append, List.length_take, Nat.min_eq_left hk]; rfl
  refine ⟨g, cp, W2, hr, hbox, hfrz, ⟨World.cell?_setCell_same' _ _ _ (by rw [hbox]; rfl), by rw [World.frozen?_setCell]; exact hfrz, ?_, ?_, ?_, ?_, ?_, ?_⟩, ?_⟩
  · rw [World.cell?_setCell_far _ _ _ _ (by simp only; omega), World.cell?_of_block (hold _ (by simp only; omega))]
    exact h.sigb
  · rw [World.cell?_setCell_far _ _ _ _ (by simp only; omega), World.cell?_of_block (hold _ (by simp only; omega))]
    exact h.bck
  · rw [hvl]
    exact h2.kept (set_grownT W2 (w.heap.size + 1) 0 _) (.inr (by simp only [Value.ownBlock, ne_eq, Option.some.injEq]; omega))
  · refine TVl.app ?_ ⟨?_, trivial⟩
    · refine (h.tv.take k).1.keep (fun b o x hA hx => hfar b o x hA.1 (Nat.lt_of_lt_of_le hA.2.1 hsw) hA.2.2 ((Kp.of_below hba).cell _ _ hx)) (fun b hA => ⟨hA.1, ?_, ?_⟩)
      · rw [hs2]; exact Nat.lt_of_lt_of_le (Nat.lt_of_lt_of_le hA.2.1 hsw) h3.size
      · simp only [Value.ownBlock, ne_eq, Option.some.injEq]; exact hne b (Nat.lt_of_lt_of_le hA.2.1 hsw) hA.2.2
    · refine hT.keep (fun b o x hA hx => hfar b o x hA.1 (Nat.lt_of_lt_of_le hA.2.1 ha.size) hA.2.2 ((Kp.of_below ha).cell _ _ hx)) (fun b hA => ⟨hA.1, ?_, ?_⟩)
      · rw [hs2]; exact Nat.lt_of_lt_of_le (Nat.lt_of_lt_of_le hA.2.1 ha.size) h3.size
      · simp only [Value.ownBlock, ne_eq, Option.some.injEq]; exact hne b (Nat.lt_of_lt_of_le hA.2.1 ha.size) hA.2.2
  · exact ((below_step h.bel hba).grown h3 (below_step h.bel hba).size (fun j hj => by have := hgb j hj; omega)).setCell (p := ⟨w.heap.size + 1, 0, none⟩) (by simp only; omega) _
  · rw [hs2]
    exact Nat.le_trans hsz (Nat.le_trans hsw h3.size)
  · refine ⟨by rw [hs2]; exact Nat.le_trans hsw h3.size, fun j o hj ho hoc => ?_⟩
    have hjl := (Array.getElem?_eq_some_iff.1 ho).1
    rw [heap_setCell_other _ _ _ _ (show j ≠ w.heap.size + 1 by omega), h3.block j (Nat.lt_of_lt_of_le hjl hsw) (fun e => ?_), hba.block j hjl]
    · exact ho
    · rcases h.own.2 with ⟨h8, _⟩ | ⟨g8, c8, cur8, h8, _, hg8, _⟩
      · rw [h8] at e; cases e
      · rw [h8] at e
        simp only [Value.ownBlock, Option.some.injEq] at e
        subst e
        rw [hg8] at ho
        cases ho
        simp [Obj.isCells] at hoc

end Go.Proofs.YtdjmjhlbjcgoiaaGreatDoor
