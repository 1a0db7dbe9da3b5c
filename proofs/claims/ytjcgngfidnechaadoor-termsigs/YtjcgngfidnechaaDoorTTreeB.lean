/- Trees in memory; apply. -/
import Derived.Test.YtjcgngfidnechaaDoorTTreeA
namespace Go.Proofs.YtjcgngfidnechaaDoor
open Go.RowKit Go.Maps

/-- A term as a tree, without its symbols. -/
inductive Tr where
  | var : Tr
  | app : List Tr → Tr

mutual
def Tr.size : Tr → Nat
  | .var => 1
  | .app ts => 1 + sizes ts
def sizes : List Tr → Nat
  | [] => 0
  | t :: ts => t.size + sizes ts
end

mutual
/-- The value v is the tree, read through blocks of A alone. -/
def TV (w : World) (A : Nat → Prop) : Value → Tr → Prop
  | v, .var => v = .iface 73 (.agg #[])
  | v, .app ts => ∃ b a cap, v = .iface 64 (.pointer (some ⟨b, 0, none⟩)) ∧ A b ∧ w.cell? ⟨b, 0, none⟩ = some (.slice a ts.length cap) ∧ w.cell? ⟨b, 1, none⟩ = some (.int .i64 ((1 + sizes ts : Nat) : Int)) ∧ ts.length ≤ cap ∧ cap ≤ maxLen ∧ (ts = [] ∨ ∃ g off, a = some ⟨g, off, none⟩ ∧ A g ∧ TVs w A g off ts)
def TVs (w : World) (A : Nat → Prop) (g : Nat) : Nat → List Tr → Prop
  | _, [] => True
  | o, t :: ts => (∃ v, w.cell? ⟨g, o, none⟩ = some v ∧ TV w A v t) ∧ TVs w A g (o + 1) ts
end

mutual
theorem TV.keep {w w' : World} {A A' : Nat → Prop} (hc : ∀ b o x, A b → w.cell? ⟨b, o, none⟩ = some x → w'.cell? ⟨b, o, none⟩ = some x) (hA : ∀ b, A b → A' b) : ∀ {v : Value} {t : Tr}, TV w A v t → TV w' A' v t
  | v, .var, h => by unfold TV at h ⊢; exact h
  | v, .app ts, h => by
    unfold TV at h ⊢
    obtain ⟨b, a, cap, h1, h2, h3, h4, h5, h6, h7⟩ := h
    refine ⟨b, a, cap, h1, hA b h2, hc b 0 _ h2 h3, hc b 1 _ h2 h4, h5, h6, ?_⟩
    rcases h7 with h7 | ⟨g, off, k1, k2, k3⟩
    · exact .inl h7
    · exact .inr ⟨g, off, k1, hA g k2, TVs.keep hc hA k2 k3⟩
theorem TVs.keep {w w' : World} {A A' : Nat → Prop} (hc : ∀ b o x, A b → w.cell? ⟨b, o, none⟩ = some x → w'.cell? ⟨b, o, none⟩ = some x) (hA : ∀ b, A b → A' b) : ∀ {g o : Nat} {ts : List Tr}, A g → TVs w A g o ts → TVs w' A' g o ts
  | g, o, [], _, _ => by unfold TVs; trivial
  | g, o, t :: ts, hg, h => by
    unfold TVs at h ⊢
    obtain ⟨⟨v, h1, h2⟩, h3⟩ := h
    exact ⟨⟨v, hc g o _ hg h1, TV.keep hc hA h2⟩, TVs.keep hc hA hg h3⟩
end

/-- Values that are trees. -/
def TVl (w : World) (A : Nat → Prop) : List Value → List Tr → Prop
  | [], [] => True
  | v :: vs, t :: ts => TV w A v t ∧ TVl w A vs ts
  | _, _ => False

theorem TVl.keep {w w' : World} {A A' : Nat → Prop} (hc : ∀ b o x, A b → w.cell? ⟨b, o, none⟩ = some x → w'.cell? ⟨b, o, none⟩ = some x) (hA : ∀ b, A b → A' b) : ∀ {vs : List Value} {ts : List Tr}, TVl w A vs ts → TVl w' A' vs ts
  | [], [], _ => trivial
  | _ :: _, _ :: _, ⟨h1, h2⟩ => ⟨h1.keep hc hA, TVl.keep hc hA h2⟩
  | [], _ :: _, h => h.elim
  | _ :: _, [], h => h.elim

theorem TVl.len {w : World} {A : Nat → Prop} : ∀ {vs : List Value} {ts : List Tr}, TVl w A vs ts → vs.length = ts.length
  | [], [], _ => rfl
  | _ :: _, _ :: _, ⟨_, h2⟩ => congrArg (· + 1) (TVl.len h2)
  | [], _ :: _, h => h.elim
  | _ :: _, [], h => h.elim

theorem TVl.get {w : World} {A : Nat → Prop} : ∀ {vs : List Value} {ts : List Tr} {k : Nat} {v : Value} {t : Tr}, TVl w A vs ts → vs[k]? = some v → ts[k]? = some t → TV w A v t
  | [], [], _, _, _, _, h, _ => by simp at h
  | v :: vs, t :: ts, 0, _, _, ⟨h1, _⟩, hv, ht => by simp at hv ht; subst hv; subst ht; exact h1
  | v :: vs, t :: ts, k + 1, _, _, ⟨_, h2⟩, hv, ht => TVl.get h2 (by simpa using hv) (by simpa using ht)
  | [], _ :: _, _, _, _, h, _, _ => h.elim
  | _ :: _, [], _, _, _, h, _, _ => h.elim

theorem TVl.app {w : World} {A : Nat → Prop} : ∀ {vs us : List Value} {ts rs : List Tr}, TVl w A vs ts → TVl w A us rs → TVl w A (vs ++ us) (ts ++ rs)
  | [], _, [], _, _, h => h
  | _ :: _, _, _ :: _, _, ⟨h1, h2⟩, h => ⟨h1, TVl.app h2 h⟩
  | [], _, _ :: _, _, h, _ => h.elim
  | _ :: _, _, [], _, h, _ => h.elim

theorem TVl.take {w : World} {A : Nat → Prop} : ∀ {vs : List Value} {ts : List Tr} (k : Nat), TVl w A vs ts → TVl w A (vs.take k) (ts.take k) ∧ TVl w A (vs.drop k) (ts.drop k)
  | [], [], k, _ => by simp [TVl]
  | _ :: _, _ :: _, 0, h => ⟨trivial, h⟩
  | _ :: _, _ :: _, k + 1, ⟨h1, h2⟩ => by
    obtain ⟨h3, h4⟩ := TVl.take k h2
    exact ⟨⟨h1, h3⟩, h4⟩
  | [], _ :: _, _, h => h.elim
  | _ :: _, [], _, h => h.elim

theorem TVl.rev {w : World} {A : Nat → Prop} : ∀ {vs : List Value} {ts : List Tr}, TVl w A vs ts → TVl w A vs.reverse ts.reverse
  | [], [], _ => trivial
  | _ :: _, _ :: _, ⟨h1, h2⟩ => by
    rw [List.reverse_cons, List.reverse_cons]
    exact TVl.app (TVl.rev h2) ⟨h1, trivial⟩
  | [], _ :: _, h => h.elim
  | _ :: _, [], h => h.elim

theorem TV.ifv {w : World} {A : Nat → Prop} {v : Value} {t : Tr} (h : TV w A v t) : IfV v := by
  cases t with
  | var => unfold TV at h; exact ⟨_, _, h⟩
  | app ts => unfold TV at h; obtain ⟨b, a, cap, h1, _⟩ := h; exact ⟨_, _, h1⟩

theorem TVl.ifv {w : World} {A : Nat → Prop} : ∀ {vs : List Value} {ts : List Tr}, TVl w A vs ts → ∀ u ∈ vs, IfV u
  | [], [], _, u, hu => by cases hu
  | v :: vs, t :: ts, ⟨h1, h2⟩, u, hu => by
    cases hu with
    | head => exact h1.ifv
    | tail _ hu => exact TVl.ifv h2 u hu
  | [], _ :: _, h, _, _ => h.elim
  | _ :: _, [], h, _, _ => h.elim

theorem IfV.one {u : Value} (h : IfV u) : u.oneCell' = true := by obtain ⟨t, x, rfl⟩ := h; rfl

theorem TVs_of_TVl {w : World} {A : Nat → Prop} {g : Nat} : ∀ {vs : List Value} {ts : List Tr} {o : Nat}, TVl w A vs ts → (∀ (j : Nat) (u : Value), vs[j]? = some u → w.cell? ⟨g, o + j, none⟩ = some u) → TVs w A g o ts
  | [], [], o, _, _ => by unfold TVs; trivial
  | v :: vs, t :: ts, o, ⟨h1, h2⟩, hc => by
    unfold TVs
    refine ⟨⟨v, hc 0 v rfl, h1⟩, TVs_of_TVl h2 fun j u hj => ?_⟩
    have := hc (j + 1) u (by simpa using hj)
    rw [show o + 1 + j = o + (j + 1) by omega]
    exact this
  | [], _ :: _, _, h, _ => h.elim
  | _ :: _, [], _, h, _ => h.elim

theorem varNodes_any (w : World) : Calls Tryd.prog 81 #[.agg #[]] w fun e w' => e = .returned (.int .i64 1) ∧ Below w.heap.size w w' := by
  go_enter Tryd.func81, Tryd.ntmps81
  go_wp2
  go_ret
  exact ⟨rfl, below_alloc _⟩

theorem appNodes_any (b : Nat) (n : Int) (w : World) (h : w.cell? ⟨b, 1, none⟩ = some (.int .i64 n)) : Calls Tryd.prog 80 #[.pointer (some ⟨b, 0, none⟩)] w fun e w' => e = .returned (.int .i64 n) ∧ w' = w := by
  go_enter Tryd.func80, Tryd.ntmps80
  go_wp2
  go_ret
  exact ⟨rfl, rfl⟩

theorem sizes_app : ∀ (a b : List Tr), sizes (a ++ b) = sizes a + sizes b
  | [], b => by simp [sizes]
  | t :: a, b => by simp only [List.cons_append, sizes, sizes_app a b]; omega

theorem sizes_take (ts : List Tr) (k : Nat) : sizes (ts.take k) ≤ sizes ts := by
  have := sizes_app (ts.take k) (ts.drop k)
  rw [List.take_append_drop] at this
  omega

theorem Tr.pos (t : Tr) : 1 ≤ t.size := by
  cases t <;> simp only [Tr.size] <;> omega

theorem len_sizes : ∀ ts : List Tr, ts.length ≤ sizes ts
  | [] => by simp [sizes]
  | t :: ts => by
    have := t.pos
    have := len_sizes ts
    simp only [List.length_cons, sizes]
    omega

theorem RdV.kp {w w' : World} {v : Value} {vals : List Value} (h : RdV w v vals) (hk : Kp w w') : RdV w' v vals := by
  rcases h with h | ⟨g, off, cap, h1, h2⟩
  · exact .inl h
  · exact .inr ⟨g, off, cap, h1, fun j u hj => hk.cell _ _ (h2 j u hj)⟩

theorem RdV.at {w : World} {ao : Option Addr} {n cap : Nat} {vals : List Value} (h : RdV w (.slice ao n cap) vals) {k : Nat} {u : Value} (hk : vals[k]? = some u) : ∃ g off, ao = some ⟨g, off, none⟩ ∧ w.cell? ⟨g, off + k, none⟩ = some u := by
  rcases h with ⟨_, rfl⟩ | ⟨g, off, cap', h1, h2⟩
  · simp at hk
  · simp only [Value.slice.injEq] at h1
    exact ⟨g, off, h1.1, h2 k u hk⟩

set_option maxRecDepth 100000 in
set_option maxHeartbeats 1600000 in
theorem applyT_any (v : Value) (vals : List Value) (ts : List Tr) (A : Nat → Prop) (w : World) (hr : RdV w v vals) (ht : TVl w A vals ts) (hA : ∀ b, A b → b < w.heap.size) (hs : sizes ts ≤ 4611686018427387904) :
    Calls Tryd.prog 55 #[v] w fun e w' => ∃ b, e = .returned (.iface 64 (.pointer (some ⟨b, 0, none⟩))) ∧ w.heap.size ≤ b ∧ w'.cell? ⟨b, 0, none⟩ = some v ∧ w'.cell? ⟨b, 1, none⟩ = some (.int .i64 ((1 + sizes ts : Nat) : Int)) ∧ Below w.heap.size w w' := by
  have hlen := ht.len
  have hsh : ∃ ao cap, v = .slice ao ts.length cap := by
    rcases hr with ⟨rfl, rfl⟩ | ⟨g, off, cap, rfl, _⟩
    · exact ⟨none, 0, by rw [← hlen]; rfl⟩
    · exact ⟨_, cap, by rw [hlen]⟩
  obtain ⟨ao, cap, rfl⟩ := hsh
  have HR := hid hr
  have HT := hid ht
  have HA := hid hA
  have hbig := len_sizes ts
  clear hr ht hA
  go_enter Tryd.func55, Tryd.ntmps55
  go_wp2
  go_loopw [3, 8] (fun sv iv wr => ∃ k : Nat, k ≤ ts.length ∧ iv = .int .i64 k ∧ sv = .int .i64 ((1 + sizes (ts.take k) : Nat) : Int) ∧ Below w.heap.size w wr) (fun _ iv _ => ts.length - (intOf iv).toNat)
  case atStart => exact ⟨0, Nat.zero_le _, rfl, by simp [sizes], Below.refl _ _⟩
  case round =>
    obtain ⟨k, hk, rfl, rfl, hbl⟩ := hrel
    have HBl := hid hbl
    by_cases hlt : k < ts.length
    · obtain ⟨u, hu⟩ : ∃ u, vals[k]? = some u := ⟨_, List.getElem?_eq_getElem (by omega)⟩
      obtain ⟨t, htk⟩ : ∃ t, ts[k]? = some t := ⟨_, List.getElem?_eq_getElem hlt⟩
      obtain ⟨g, off, rfl, hc⟩ := (HR.out.kp (Kp.of_below hbl)).at hu
      have htv := HT.out.get hu htk
      have hst := sizes_take ts (k + 1)
      have hsn : sizes (ts.take (k + 1)) = sizes (ts.take k) + t.size := by rw [take_get htk, sizes_app]; simp [sizes]
      have HSn := hid hsn
      obtain ⟨S, hS⟩ : ∃ S, S = sizes (ts.take k) := ⟨_, rfl⟩
      rw [← hS] at hsn HSn ⊢
      clear hS hu htk hbl
      cases t with
      | var =>
        unfold TV at htv
        subst htv
        simp only [Tr.size] at hsn HSn
        go_wp2_with fail
        refine (varNodes_any wr).mono ?_
        rintro e w2 ⟨rfl, hb2⟩
        have HB2 := hid (below_step HBl.out hb2)
        have hwr : IntKind.i64.wrap (((1 + S : Nat) : Int) + 1) = ((1 + (S + 1) : Nat) : Int) := by rw [IntWalk.i64_in _ ⟨by omega, by omega⟩]; omega
        clear hb2
        go_wp2
        go_roundw
        case rel => exact ⟨k + 1, by omega, by go_num, by rw [HSn.out]; exact congrArg (Value.int .i64) (by omega), HB2.out⟩
        case measure => simp [intOf]; omega
      | app rs =>
        unfold TV at htv
        obtain ⟨b, a, cp, rfl, hb, h3, h4, h5, h6, h7⟩ := htv
        have h4r := (HBl.out.cell (p := ⟨b, 1, none⟩) (HA.out b hb)).trans h4
        simp only [Tr.size] at hsn HSn
        have hwr : IntKind.i64.wrap (((1 + S : Nat) : Int) + ((1 + sizes rs : Nat) : Int)) = ((1 + (S + (1 + sizes rs)) : Nat) : Int) := by rw [IntWalk.i64_in _ ⟨by omega, by omega⟩]; omega
        clear h3 h7
        go_wp2_with fail
        refine (appNodes_any b _ wr h4r).mono ?_
        rintro e w2 ⟨rfl, hw2⟩
        have hw8 := hw2.symm
        subst hw8
        clear hw2
        go_wp2
        go_roundw
        case rel => exact ⟨k + 1, by omega, by go_num, by rw [HSn.out]; exact congrArg (Value.int .i64) (by omega), HBl.out⟩
        case measure => simp [intOf]; omega
    · have hke : k = ts.length := by omega
      subst hke
      rw [List.take_length]
      go_wp2
      go_ret
      exact ⟨_, rfl, hbl.size, by simp, by simp, below_step hbl (below_alloc _)⟩

end Go.Proofs.YtjcgngfidnechaaDoor
