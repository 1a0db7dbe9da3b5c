/- Texts of the proof, one behind the other. -/
import Derived.Test.YtcijfaijjpkdoaaDoorOwn6
import Derived.Test.YtcijfaijjpkdoaaDoorOwn5
/- Trees of package match in memory; apply. -/
namespace Go.Proofs.YtcijfaijjpkdoaaDoor
open Go.RowKit Go.Maps

mutual
/-- The value v is the tree that stands at a place, read through blocks of A alone; S: the codes from a place on. -/
def TP (w : World) (A : Nat → Prop) (S : Nat → Nat → Value) : Value → Tr → Nat → Prop
  | v, .var, p => v = .iface 79 (.agg #[S p 1])
  | v, .app ts, p => ∃ b a cap, v = .iface 86 (.pointer (some ⟨b, 0, none⟩)) ∧ A b ∧ w.cell? ⟨b, 0, none⟩ = some (S p (1 + sizes ts)) ∧ w.cell? ⟨b, 1, none⟩ = some (.slice a ts.length cap) ∧ ts.length ≤ cap ∧ cap ≤ maxLen ∧ (ts = [] ∨ ∃ g off, a = some ⟨g, off, none⟩ ∧ A g ∧ TPs w A S g off ts (p + 1))
def TPs (w : World) (A : Nat → Prop) (S : Nat → Nat → Value) (g : Nat) : Nat → List Tr → Nat → Prop
  | _, [], _ => True
  | o, t :: ts, p => (∃ v, w.cell? ⟨g, o, none⟩ = some v ∧ TP w A S v t p) ∧ TPs w A S g (o + 1) ts (p + t.size)
end

mutual
theorem TP.keep {w w' : World} {A A' : Nat → Prop} {S : Nat → Nat → Value} (hc : ∀ b o x, A b → w.cell? ⟨b, o, none⟩ = some x → w'.cell? ⟨b, o, none⟩ = some x) (hA : ∀ b, A b → A' b) : ∀ {v : Value} {t : Tr} {p : Nat}, TP w A S v t p → TP w' A' S v t p
  | v, .var, p, h => by unfold TP at h ⊢; exact h
  | v, .app ts, p, h => by
    unfold TP at h ⊢
    obtain ⟨b, a, cap, h1, h2, h3, h4, h5, h6, h7⟩ := h
    refine ⟨b, a, cap, h1, hA b h2, hc b 0 _ h2 h3, hc b 1 _ h2 h4, h5, h6, ?_⟩
    rcases h7 with h7 | ⟨g, off, k1, k2, k3⟩
    · exact .inl h7
    · exact .inr ⟨g, off, k1, hA g k2, TPs.keep hc hA k2 k3⟩
theorem TPs.keep {w w' : World} {A A' : Nat → Prop} {S : Nat → Nat → Value} (hc : ∀ b o x, A b → w.cell? ⟨b, o, none⟩ = some x → w'.cell? ⟨b, o, none⟩ = some x) (hA : ∀ b, A b → A' b) : ∀ {g o : Nat} {ts : List Tr} {p : Nat}, A g → TPs w A S g o ts p → TPs w' A' S g o ts p
  | g, o, [], p, _, _ => by unfold TPs; trivial
  | g, o, t :: ts, p, hg, h => by
    unfold TPs at h ⊢
    obtain ⟨⟨v, h1, h2⟩, h3⟩ := h
    exact ⟨⟨v, hc g o _ hg h1, TP.keep hc hA h2⟩, TPs.keep hc hA hg h3⟩
end

/-- Values that are trees one behind the other. -/
def TPl (w : World) (A : Nat → Prop) (S : Nat → Nat → Value) : List Value → List Tr → Nat → Prop
  | [], [], _ => True
  | v :: vs, t :: ts, p => TP w A S v t p ∧ TPl w A S vs ts (p + t.size)
  | _, _, _ => False

theorem TPl.keep {w w' : World} {A A' : Nat → Prop} {S : Nat → Nat → Value} (hc : ∀ b o x, A b → w.cell? ⟨b, o, none⟩ = some x → w'.cell? ⟨b, o, none⟩ = some x) (hA : ∀ b, A b → A' b) : ∀ {vs : List Value} {ts : List Tr} {p : Nat}, TPl w A S vs ts p → TPl w' A' S vs ts p
  | [], [], _, _ => trivial
  | _ :: _, _ :: _, _, ⟨h1, h2⟩ => ⟨h1.keep hc hA, TPl.keep hc hA h2⟩
  | [], _ :: _, _, h => h.elim
  | _ :: _, [], _, h => h.elim

theorem TPl.len {w : World} {A : Nat → Prop} {S : Nat → Nat → Value} : ∀ {vs : List Value} {ts : List Tr} {p : Nat}, TPl w A S vs ts p → vs.length = ts.length
  | [], [], _, _ => rfl
  | _ :: _, _ :: _, _, ⟨_, h2⟩ => congrArg (· + 1) (TPl.len h2)
  | [], _ :: _, _, h => h.elim
  | _ :: _, [], _, h => h.elim

theorem TPl.get {w : World} {A : Nat → Prop} {S : Nat → Nat → Value} : ∀ {vs : List Value} {ts : List Tr} {p k : Nat} {v : Value} {t : Tr}, TPl w A S vs ts p → vs[k]? = some v → ts[k]? = some t → TP w A S v t (p + sizes (ts.take k))
  | [], [], _, _, _, _, _, h, _ => by simp at h
  | v :: vs, t :: ts, p, 0, _, _, ⟨h1, _⟩, hv, ht => by simp at hv ht; subst hv; subst ht; simpa [sizes] using h1
  | v :: vs, t :: ts, p, k + 1, _, _, ⟨_, h2⟩, hv, ht => by
    have := TPl.get h2 (k := k) (by simpa using hv) (by simpa using ht)
    rw [List.take_succ_cons]
    simp only [sizes]
    rw [← Nat.add_assoc]
    exact this
  | [], _ :: _, _, _, _, _, h, _, _ => h.elim
  | _ :: _, [], _, _, _, _, h, _, _ => h.elim

theorem TPl.take {w : World} {A : Nat → Prop} {S : Nat → Nat → Value} : ∀ {vs : List Value} {ts : List Tr} {p : Nat} (k : Nat), TPl w A S vs ts p → TPl w A S (vs.take k) (ts.take k) p ∧ TPl w A S (vs.drop k) (ts.drop k) (p + sizes (ts.take k))
  | [], [], p, k, _ => by simp [TPl]
  | _ :: _, _ :: _, p, 0, h => ⟨trivial, by simpa [sizes] using h⟩
  | _ :: _, t :: ts, p, k + 1, ⟨h1, h2⟩ => by
    obtain ⟨h3, h4⟩ := TPl.take k h2
    refine ⟨⟨h1, h3⟩, ?_⟩
    rw [List.take_succ_cons, List.drop_succ_cons, List.drop_succ_cons]
    simp only [sizes]
    rw [← Nat.add_assoc]
    exact h4
  | [], _ :: _, _, _, h => h.elim
  | _ :: _, [], _, _, h => h.elim

theorem TP.ifv {w : World} {A : Nat → Prop} {S : Nat → Nat → Value} {v : Value} {t : Tr} {p : Nat} (h : TP w A S v t p) : IfV v := by
  cases t with
  | var => unfold TP at h; exact ⟨_, _, h⟩
  | app ts => unfold TP at h; obtain ⟨b, a, cap, h1, _⟩ := h; exact ⟨_, _, h1⟩

theorem TPl.ifv {w : World} {A : Nat → Prop} {S : Nat → Nat → Value} : ∀ {vs : List Value} {ts : List Tr} {p : Nat}, TPl w A S vs ts p → ∀ u ∈ vs, IfV u
  | [], [], _, _, u, hu => by cases hu
  | v :: vs, t :: ts, _, ⟨h1, h2⟩, u, hu => by
    cases hu with
    | head => exact h1.ifv
    | tail _ hu => exact TPl.ifv h2 u hu
  | [], _ :: _, _, h, _, _ => h.elim
  | _ :: _, [], _, h, _, _ => h.elim

theorem TPs_of_TPl {w : World} {A : Nat → Prop} {S : Nat → Nat → Value} {g : Nat} : ∀ {vs : List Value} {ts : List Tr} {o p : Nat}, TPl w A S vs ts p → (∀ (j : Nat) (u : Value), vs[j]? = some u → w.cell? ⟨g, o + j, none⟩ = some u) → TPs w A S g o ts p
  | [], [], o, p, _, _ => by unfold TPs; trivial
  | v :: vs, t :: ts, o, p, ⟨h1, h2⟩, hc => by
    unfold TPs
    refine ⟨⟨v, hc 0 v rfl, h1⟩, TPs_of_TPl h2 fun j u hj => ?_⟩
    have := hc (j + 1) u (by simpa using hj)
    rw [show o + 1 + j = o + (j + 1) by omega]
    exact this
  | [], _ :: _, _, _, h, _ => h.elim
  | _ :: _, [], _, _, h, _ => h.elim

theorem TPs.get {w : World} {A : Nat → Prop} {S : Nat → Nat → Value} {g : Nat} : ∀ {o : Nat} {ts : List Tr} {p k : Nat} {t : Tr}, TPs w A S g o ts p → ts[k]? = some t → ∃ v, w.cell? ⟨g, o + k, none⟩ = some v ∧ TP w A S v t (p + sizes (ts.take k))
  | o, [], p, k, t, _, hk => by simp at hk
  | o, x :: ts, p, 0, t, h, hk => by
    unfold TPs at h
    simp only [List.getElem?_cons_zero, Option.some.injEq] at hk
    subst hk
    simpa [sizes] using h.1
  | o, x :: ts, p, k + 1, t, h, hk => by
    unfold TPs at h
    rw [List.getElem?_cons_succ] at hk
    obtain ⟨v, h1, h2⟩ := TPs.get h.2 hk
    refine ⟨v, by rw [show o + (k + 1) = o + 1 + k by omega]; exact h1, ?_⟩
    rw [List.take_succ_cons]
    simp only [sizes]
    rw [← Nat.add_assoc]
    exact h2

/-- The codes from a place on. -/
def cdS (b o c : Nat) (p n : Nat) : Value := .slice (some ⟨b, o + p, none⟩) n (c - p)

theorem varRow_any (s : Value) (w : World) : Calls Tryd.prog 161 #[.agg #[s]] w fun e w' => e = .returned s ∧ Below w.heap.size w w' := by
  go_enter Tryd.func161, Tryd.ntmps161
  go_wp2
  go_ret
  exact ⟨rfl, below_alloc _⟩

theorem appRow_any (b : Nat) (s : Value) (w : World) (h : w.cell? ⟨b, 0, none⟩ = some s) : Calls Tryd.prog 162 #[.pointer (some ⟨b, 0, none⟩)] w fun e w' => e = .returned s ∧ w' = w := by
  go_enter Tryd.func162, Tryd.ntmps162
  go_wp2
  go_ret
  exact ⟨rfl, rfl⟩

set_option maxRecDepth 100000 in
set_option maxHeartbeats 1600000 in
theorem applyM_any (b0 o0 c0 p n : Nat) (v : Value) (vals : List Value) (ts : List Tr) (A : Nat → Prop) (q : Nat) (w : World) (hr : RdV w v vals) (ht : TPl w A (cdS b0 o0 c0) vals ts q) (hA : ∀ b, A b → b < w.heap.size) (hs : 1 + sizes ts ≤ n) (hn : n ≤ c0 - p) (hc : c0 ≤ 9223372036854775807) :
    Calls Tryd.prog 58 #[cdS b0 o0 c0 p n, v] w fun e w' => ∃ b, e = .returned (.iface 86 (.pointer (some ⟨b, 0, none⟩))) ∧ w.heap.size ≤ b ∧ w'.cell? ⟨b, 0, none⟩ = some (cdS b0 o0 c0 p (1 + sizes ts)) ∧ w'.cell? ⟨b, 1, none⟩ = some v ∧ Below w.heap.size w w' := by
  have hlen := ht.len
  have hsh : ∃ ao cap, v = .slice ao ts.length cap := by
    rcases hr with ⟨rfl, rfl⟩ | ⟨g, off, cap, rfl, _⟩
    · exact ⟨none, 0, by rw [← hlen]; rfl⟩
    · exact ⟨_, cap, by rw [hlen]⟩
  obtain ⟨ao, cap, rfl⟩ := hsh
  have HR := hid hr
  have HT := hid ht
  have HA := hid hA
  have hbig := len_sizes ts
  clear hr ht hA
  unfold cdS
  go_enter Tryd.func58, Tryd.ntmps58
  go_wp2
  go_loopw [5, 10] (fun sv iv wr => ∃ k : Nat, k ≤ ts.length ∧ iv = .int .i64 k ∧ sv = .int .i64 ((1 + sizes (ts.take k) : Nat) : Int) ∧ Below w.heap.size w wr) (fun _ iv _ => ts.length - (intOf iv).toNat)
  case atStart => exact ⟨0, Nat.zero_le _, rfl, by simp [sizes], Below.refl _ _⟩
  case round =>
    obtain ⟨k, hk, rfl, rfl, hbl⟩ := hrel
    have HBl := hid hbl
    by_cases hlt : k < ts.length
    · obtain ⟨u, hu⟩ : ∃ u, vals[k]? = some u := ⟨_, List.getElem?_eq_getElem (by omega)⟩
      obtain ⟨t, htk⟩ : ∃ t, ts[k]? = some t := ⟨_, List.getElem?_eq_getElem hlt⟩
      obtain ⟨g, off, rfl, hcl⟩ := (HR.out.kp (Kp.of_below hbl)).at hu
      have htv := HT.out.get hu htk
      have hst := sizes_take ts (k + 1)
      have hsn : sizes (ts.take (k + 1)) = sizes (ts.take k) + t.size := by rw [take_get htk, sizes_app]; simp [sizes]
      have HSn := hid hsn
      obtain ⟨S, hS⟩ : ∃ S, S = sizes (ts.take k) := ⟨_, rfl⟩
      rw [← hS] at hsn HSn htv ⊢
      clear hS hu htk hbl
      cases t with
      | var =>
        unfold TP cdS at htv
        subst htv
        simp only [Tr.size] at hsn HSn
        go_wp2_with fail
        refine (varRow_any _ wr).mono ?_
        rintro e w2 ⟨rfl, hb2⟩
        have HB2 := hid (below_step HBl.out hb2)
        have hwr : IntKind.i64.wrap (((1 + S : Nat) : Int) + 1) = ((1 + (S + 1) : Nat) : Int) := by rw [IntWalk.i64_in _ ⟨by omega, by omega⟩]; omega
        clear hb2
        go_wp2
        go_roundw
        case rel => exact ⟨k + 1, by omega, by go_num, by rw [HSn.out]; exact congrArg (Value.int .i64) (by omega), HB2.out⟩
        case measure => simp [intOf]; omega
      | app rs =>
        unfold TP cdS at htv
        obtain ⟨b, a, cp, rfl, hb, h3, h4, h5, h6, h7⟩ := htv
        have h3r := (HBl.out.cell (p := ⟨b, 0, none⟩) (HA.out b hb)).trans h3
        simp only [Tr.size] at hsn HSn
        obtain ⟨Z, hZ⟩ : ∃ Z, Z = 1 + sizes rs := ⟨_, rfl⟩
        rw [← hZ] at hsn HSn h3r
        have hwr : IntKind.i64.wrap (((1 + S : Nat) : Int) + (Z : Int)) = ((1 + (S + Z) : Nat) : Int) := by rw [IntWalk.i64_in _ ⟨by omega, by omega⟩]; omega
        clear h3 h7 hZ
        go_wp2_with fail
        refine (appRow_any b _ wr h3r).mono ?_
        rintro e w2 ⟨rfl, hw2⟩
        have hw8 := hw2.symm
        subst hw8
        clear hw2
        go_wp2
        go_roundw
        case rel => exact ⟨k + 1, by omega, by go_num, by rw [HSn.out]; exact congrArg (Value.int .i64) (by omega), HBl.out⟩
        case measure => simp [intOf]; omega
    · have hke : k = ts.length := by omega
      subst hke
      rw [List.take_length]
      obtain ⟨Z, hZ⟩ : ∃ Z, Z = sizes ts := ⟨_, rfl⟩
      rw [← hZ] at hs ⊢
      have HZ := hid hZ
      have hzc : 1 + Z ≤ c0 - p := by omega
      have hz0 : (0 : Int) ≤ 1 + (Z : Int) := by omega
      clear hZ hbig
      go_wp2
      go_ret
      exact ⟨_, rfl, hbl.size, by rw [← HZ.out]; simp, by simp, below_step hbl (below_alloc _)⟩

end Go.Proofs.YtcijfaijjpkdoaaDoor

/- The tree of a right term, of package match: where grow stands. -/
namespace Go.Proofs.YtcijfaijjpkdoaaDoor
open Go.RowKit Go.Maps Go.Shelf

attribute [local go_sem] Oper.semAt_some

/-- Where grow stands: what begins first in the row is the last one; it begins at p. -/
structure GM (w W : World) (S : Nat → Nat → Value) (sv v gv : Value) (vals : List Value) (st : List Tr) (p : Nat) : Prop where
  box : W.cell? ⟨w.heap.size + 2, 0, none⟩ = some gv
  frz : W.frozen? ⟨w.heap.size + 2, 0, none⟩ = false
  sigb : W.cell? ⟨w.heap.size, 0, none⟩ = some sv
  rowb : W.cell? ⟨w.heap.size + 1, 0, none⟩ = some v
  bck : W.cell? ⟨w.heap.size + 3, 0, none⟩ = some v
  own : W.ownsRow (w.heap.size + 4) 55 1 gv vals.length vals
  tv : TPl W (fun b => w.heap.size + 4 ≤ b ∧ b < W.heap.size ∧ gv.ownBlock ≠ some b) S vals.reverse st.reverse p
  bel : Below w.heap.size w W
  sz : w.heap.size + 4 ≤ W.heap.size

theorem GM.put {w W : World} {S : Nat → Nat → Value} {sv v gv : Value} {vals : List Value} {st : List Tr} {p : Nat} (h : GM w W S sv v gv vals st p) {l : Nat} {o o' : Obj} (hl : w.heap.size + 4 ≤ l) (ho : W.heap[l]? = some o) (hc : o.isCells = false) : GM w (W.putObj l o') S sv v gv vals st p := by
  have hsz : (W.putObj l o').heap.size = W.heap.size := by simp [World.putObj]
  refine ⟨cell_putObj ho hc h.box, ?_, cell_putObj ho hc h.sigb, cell_putObj ho hc h.rowb, cell_putObj ho hc h.bck, ownsRow_putObj h.own _ ho hc, h.tv.keep (fun b o x _ hx => cell_putObj ho hc hx) (fun b hb => ⟨hb.1, by rw [hsz]; exact hb.2.1, hb.2.2⟩), ?_, by rw [hsz]; exact h.sz⟩
  · rw [frozen_same (World.putObj_heap_other (by simp only; omega))]
    exact h.frz
  · exact ⟨h.bel.os, h.bel.tape, h.bel.output, by rw [hsz]; exact h.bel.size, fun k hk => (World.putObj_heap_other (by omega)).trans (h.bel.block k hk)⟩

/-- What changed nothing that lay changes nothing here. -/
theorem GM.later {w W W' : World} {S : Nat → Nat → Value} {sv v gv : Value} {vals : List Value} {st : List Tr} {p : Nat} (h : GM w W S sv v gv vals st p) (hb : Below W.heap.size W W') : GM w W' S sv v gv vals st p := by
  have hk := Kp.of_below hb
  exact ⟨hk.cell _ _ h.box, by rw [frozen_same (hb.block _ (by have := h.sz; simp only; omega))]; exact h.frz, hk.cell _ _ h.sigb, hk.cell _ _ h.rowb, hk.cell _ _ h.bck, ownsRow_later h.own hb,
    h.tv.keep (fun b o x _ hx => hk.cell _ _ hx) (fun b hb2 => ⟨hb2.1, Nat.lt_of_lt_of_le hb2.2.1 hb.size, hb2.2.2⟩), below_step h.bel hb, Nat.le_trans h.sz hb.size⟩

/-- A tree joined, and the box set. -/
theorem GM.push (ty : TypeId) {w W W1 : World} {S : Nat → Nat → Value} {sv v gv u : Value} {vals : List Value} {st : List Tr} {k p p' : Nat} {T : Tr} {ao : Option Addr} {cap : Nat} (h : GM w W S sv v gv vals st p) (hgv : gv = .slice ao vals.length cap) (hk : k ≤ vals.length) (hb : Below W.heap.size W W1)
    (hT : TP W1 (fun b => w.heap.size + 4 ≤ b ∧ b < W1.heap.size ∧ gv.ownBlock ≠ some b) S u T p') (hp : p' + T.size = p + sizes (st.drop k)) (hl : (k + 1) * 16 ≤ 140737488355328) :
    ∃ g cp W2, (Builtin.append_ #[87, 87] ty #[.slice ao k cap, .slice (some ⟨W1.heap.size, 0, none⟩) 1 1]).run Tryd.prog (W1.alloc (.cells #[u] 55)) = .ok (.slice (some ⟨g, 0, none⟩) (k + 1) cp) W2 ∧
      W2.cell? ⟨w.heap.size + 2, 0, none⟩ = some gv ∧ W2.frozen? ⟨w.heap.size + 2, 0, none⟩ = false ∧
      GM w (W2.setCell ⟨w.heap.size + 2, 0, none⟩ (.slice (some ⟨g, 0, none⟩) (k + 1) cp)) S sv v (.slice (some ⟨g, 0, none⟩) (k + 1) cp) (vals.take k ++ [u]) (st.take k ++ [T]) p' ∧ KeepsFrom (w.heap.size + 4) W (W2.setCell ⟨w.heap.size + 2, 0, none⟩ (.slice (some ⟨g, 0, none⟩) (k + 1) cp)) := by
  obtain ⟨i0, hi, hz0, hz1, hz2⟩ := info_parts info_treeM
  have ha := below_alloc (w := W1) (.cells #[u] 55)
  have hba := below_step hb ha
  have hown := h.own
  rw [hgv] at hown
  have hcut := own_cut (ownsRow_later hown hba) hk
  have hsz := h.sz
  obtain ⟨v', W2, hr, h2, h3, _, h5⟩ := run_append_own_at (P := Tryd.prog) (W1.alloc (.cells #[u] 55)) (w.heap.size + 4) 87 ty 55 i0 _ 1 16 under_treesM hi hz0 hz1 hz2 rfl (by decide) (.slice ao k cap) k (vals.take k) hcut ⟨W1.heap.size, 0, none⟩ 1 1 [u] rfl
    (fun j y hj => by
      rw [Addr.add_lit, Nat.zero_add]
      cases j with
      | zero =>
        simp at hj
        subst hj
        rw [cell_of_row _ _ _ _ _ _ (heap_alloc_new _ _)]
        rfl
      | succ j => simp at hj) (fun y hy => by simp at hy; subst hy; exact hT.ifv.one) (by unfold maxLen; omega) (by omega) (Nat.le_trans hsz hba.size)
  obtain ⟨g, cp, rfl⟩ := own_form h2 (by omega)
  have hge := own_ge h2
  -- the block of the slice, before
  have hob : (Value.slice ao k cap).ownBlock = gv.ownBlock := by rw [hgv]; cases ao <;> rfl
  rw [hob] at h3 h5
  have hgb : ∀ j, gv.ownBlock = some j → w.heap.size + 4 ≤ j := fun j hj => own_blk h.own hj
  have hold : ∀ b, b < w.heap.size + 4 → W2.heap[b]? = W.heap[b]? := fun b hb2 => by
    rw [h3.block b (Nat.lt_of_lt_of_le (Nat.lt_of_lt_of_le hb2 hsz) hba.size) (fun e => by have := hgb b e.symm; omega)]
    exact hba.block b (Nat.lt_of_lt_of_le hb2 hsz)
  have hbox : W2.cell? ⟨w.heap.size + 2, 0, none⟩ = some gv := by
    rw [World.cell?_of_block (hold _ (by simp only; omega))]
    exact h.box
  have hfrz : W2.frozen? ⟨w.heap.size + 2, 0, none⟩ = false := by
    rw [frozen_same (hold _ (by simp only; omega))]
    exact h.frz
  -- cells away from the slice's block stay
  have hfar : ∀ (b o : Nat) (x : Value), w.heap.size + 4 ≤ b → b < (W1.alloc (.cells #[u] 55)).heap.size → gv.ownBlock ≠ some b → (W1.alloc (.cells #[u] 55)).cell? ⟨b, o, none⟩ = some x → (W2.setCell ⟨w.heap.size + 2, 0, none⟩ (.slice (some ⟨g, 0, none⟩) (k + 1) cp)).cell? ⟨b, o, none⟩ = some x := fun b o x hb1 hb2 hb3 hx => by
    rw [World.cell?_setCell_far _ _ _ _ (by simp only; omega), World.cell?_of_block (h3.block b hb2 (fun e => hb3 e.symm))]
    exact hx
  have hne : ∀ b, b < (W1.alloc (.cells #[u] 55)).heap.size → gv.ownBlock ≠ some b → g ≠ b := fun b hb1 hb2 e => by
    subst e
    rcases h5 with h5 | h5
    · exact hb2 (by rw [← h5]; rfl)
    · simp only [Value.ownBlock, Option.some.injEq] at h5
      omega
  have hs2 : (W2.setCell ⟨w.heap.size + 2, 0, none⟩ (.slice (some ⟨g, 0, none⟩) (k + 1) cp)).heap.size = W2.heap.size := by simp [World.setCell]
  have hsw : W.heap.size ≤ (W1.alloc (.cells #[u] 55)).heap.size := hba.size
  have hvl : (vals.take k ++ [u]).length = k + 1 := by rw [List.length_append, List.length_take, Nat.min_eq_left hk]; rfl
  refine ⟨g, cp, W2, hr, hbox, hfrz, ⟨World.cell?_setCell_same' _ _ _ (by rw [hbox]; rfl), by rw [World.frozen?_setCell]; exact hfrz, ?_, ?_, ?_, ?_, ?_, ?_, ?_⟩, ?_⟩
  · rw [World.cell?_setCell_far _ _ _ _ (by simp only; omega), World.cell?_of_block (hold _ (by simp only; omega))]
    exact h.sigb
  · rw [World.cell?_setCell_far _ _ _ _ (by simp only; omega), World.cell?_of_block (hold _ (by simp only; omega))]
    exact h.rowb
  · rw [World.cell?_setCell_far _ _ _ _ (by simp only; omega), World.cell?_of_block (hold _ (by simp only; omega))]
    exact h.bck
  · rw [hvl]
    exact h2.kept (set_grownT W2 (w.heap.size + 2) 0 _) (.inr (by simp only [Value.ownBlock, ne_eq, Option.some.injEq]; omega))
  · rw [List.reverse_append, List.reverse_append, List.reverse_singleton, List.reverse_singleton]
    have hlk : vals.length = st.length := by have := h.tv.len; rw [List.length_reverse, List.length_reverse] at this; exact this
    have hd1 : (vals.take k).reverse = vals.reverse.drop (vals.length - k) := by
      have e1 : vals.reverse = (vals.drop k).reverse ++ (vals.take k).reverse := by rw [← List.reverse_append, List.take_append_drop]
      rw [e1, show vals.length - k = (vals.drop k).reverse.length by rw [List.length_reverse, List.length_drop], List.drop_left]
    have hd2 : (st.take k).reverse = st.reverse.drop (vals.length - k) := by
      have e1 : st.reverse = (st.drop k).reverse ++ (st.take k).reverse := by rw [← List.reverse_append, List.take_append_drop]
      rw [e1, hlk, show st.length - k = (st.drop k).reverse.length by rw [List.length_reverse, List.length_drop], List.drop_left]
    have hd3 : sizes (st.reverse.take (vals.length - k)) = sizes (st.drop k) := by
      have e1 : st.reverse = (st.drop k).reverse ++ (st.take k).reverse := by rw [← List.reverse_append, List.take_append_drop]
      rw [e1, hlk, show st.length - k = (st.drop k).reverse.length by rw [List.length_reverse, List.length_drop], List.take_left, sizes_rev]
    have htk := (h.tv.take (vals.length - k)).2
    rw [hd3, ← hp] at htk
    rw [← hd1, ← hd2] at htk
    refine ⟨?_, ?_⟩
    rotate_left
    · refine htk.keep (fun b o x hA hx => hfar b o x hA.1 (Nat.lt_of_lt_of_le hA.2.1 hsw) hA.2.2 ((Kp.of_below hba).cell _ _ hx)) (fun b hA => ⟨hA.1, ?_, ?_⟩)
      · rw [hs2]; exact Nat.lt_of_lt_of_le (Nat.lt_of_lt_of_le hA.2.1 hsw) h3.size
      · simp only [Value.ownBlock, ne_eq, Option.some.injEq]; exact hne b (Nat.lt_of_lt_of_le hA.2.1 hsw) hA.2.2
    · refine hT.keep (fun b o x hA hx => hfar b o x hA.1 (Nat.lt_of_lt_of_le hA.2.1 ha.size) hA.2.2 ((Kp.of_below ha).cell _ _ hx)) (fun b hA => ⟨hA.1, ?_, ?_⟩)
      · rw [hs2]; exact Nat.lt_of_lt_of_le (Nat.lt_of_lt_of_le hA.2.1 ha.size) h3.size
      · simp only [Value.ownBlock, ne_eq, Option.some.injEq]; exact hne b (Nat.lt_of_lt_of_le hA.2.1 ha.size) hA.2.2
  · exact ((below_step h.bel hba).grown h3 (below_step h.bel hba).size (fun j hj => by have := hgb j hj; omega)).setCell (p := ⟨w.heap.size + 2, 0, none⟩) (by simp only; omega) _
  · rw [hs2]
    exact Nat.le_trans hsz (Nat.le_trans hsw h3.size)
  · refine ⟨by rw [hs2]; exact Nat.le_trans hsw h3.size, fun j o hj ho hoc => ?_⟩
    have hjl := (Array.getElem?_eq_some_iff.1 ho).1
    rw [heap_setCell_other _ _ _ _ (show j ≠ w.heap.size + 2 by omega), h3.block j (Nat.lt_of_lt_of_le hjl hsw) (fun e => ?_), hba.block j hjl]
    · exact ho
    · rcases h.own.2 with ⟨h8, _⟩ | ⟨g8, c8, cur8, h8, _, hg8, _⟩
      · rw [h8] at e; cases e
      · rw [h8] at e
        simp only [Value.ownBlock, Option.some.injEq] at e
        subst e
        rw [hg8] at ho
        cases ho
        simp [Obj.isCells] at hoc

end Go.Proofs.YtcijfaijjpkdoaaDoor
