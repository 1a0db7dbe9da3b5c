/- Rows of limbs in memory: a slice that is read, a slice that a call owns; the plain facts on them that the walks use. -/
import Derived.Test.YtfifgmcjilkigaaProg
import Derived.Test.YtfifgmcjilkigaaNum
import Derived.WalkKit
import Derived.WalkSpells
import Derived.WalkLawsBesides
import Derived.Deep.QuietTactic
import Derived.BigQuiet
import Derived.Laws.CopyOwn
import Derived.Laws.IdiomCopy
namespace Go.Proofs.Ytfifgmcjilkigaa
open Go.RowKit

/-- A limb as a value. -/
def U (x : Nat) : Value := .int .u32 (x : Int)

/-- The slice value v reads as the limbs xs (of an empty one the address is whatever). -/
def Sl (w : World) (v : Value) (xs : List Nat) : Prop :=
  Lim xs ∧ ∃ ao cap, v = .slice ao xs.length cap ∧ xs.length ≤ cap ∧ cap ≤ maxLen ∧
    (0 < xs.length → ∃ g off, ao = some ⟨g, off, none⟩ ∧ g < w.heap.size ∧ ∀ (k x : Nat), xs[k]? = some x → w.cell? ⟨g, off + k, none⟩ = some (.int .u32 (x : Int)))

/-- The slice value v is the call's own (blocks from base on), at the head of its row, and holds the limbs xs. -/
def Ow (w : World) (base : Nat) (v : Value) (xs : List Nat) : Prop := Lim xs ∧ w.ownsRow base 43 1 v xs.length (xs.map U)

theorem Ow.sl {w : World} {base : Nat} {v : Value} {xs : List Nat} (h : Ow w base v xs) : Sl w v xs := by
  refine ⟨h.1, ?_⟩
  have h2 := h.2
  rcases h2.2 with ⟨rfl, hn⟩ | ⟨g, cap, cur, rfl, hb, hg, hc, hm, hs, ht⟩
  · exact ⟨none, 0, by rw [hn], by omega, by simp [maxLen], by omega⟩
  · refine ⟨_, cap, rfl, hc, hm, fun _ => ⟨g, 0, rfl, (Array.getElem?_eq_some_iff.1 hg).1, ?_⟩⟩
    intro k x hk
    have hlt : k < xs.length := (List.getElem?_eq_some_iff.1 hk).1
    rw [Nat.zero_add, World.ownsRow.cellAt h2 k (by omega)]
    simp [hk, U]

theorem Sl.later {w w' : World} {v : Value} {xs : List Nat} (h : Sl w v xs) (hb : Below w.heap.size w w') : Sl w' v xs := by
  obtain ⟨hl, ao, cap, rfl, hc, hm, hx⟩ := h
  refine ⟨hl, ao, cap, rfl, hc, hm, fun h0 => ?_⟩
  obtain ⟨g, off, rfl, hg, hx⟩ := hx h0
  exact ⟨g, off, rfl, Nat.lt_of_lt_of_le hg hb.size, fun k x hk => (hb.cell (p := ⟨g, off + k, none⟩) hg).trans (hx k x hk)⟩

theorem Ow.mono {w : World} {base b' : Nat} {v : Value} {xs : List Nat} (h : Ow w base v xs) (hb : b' ≤ base) : Ow w b' v xs := by
  refine ⟨h.1, h.2.1, ?_⟩
  rcases h.2.2 with h | ⟨g, cap, cur, rfl, hg, r⟩
  · exact .inl h
  · exact .inr ⟨g, cap, cur, rfl, Nat.le_trans hb hg, r⟩

theorem getLast_some {xs : List Nat} {x : Nat} (h : xs[xs.length - 1]? = some x) : lastN xs = x := by
  unfold lastN; rw [List.getLast?_eq_getElem?, h]; rfl

theorem exists_get {xs : List Nat} {k : Nat} (h : k < xs.length) : ∃ x, xs[k]? = some x := ⟨xs[k], List.getElem?_eq_getElem h⟩

/-- An owned row, cut at its end. -/
theorem Ow.cut {w : World} {base g n cap : Nat} {xs : List Nat} (h : Ow w base (.slice (some ⟨g, 0, none⟩) n cap) xs) {k : Nat} (hk : k ≤ xs.length) :
    Ow w base (.slice (some ⟨g, 0, none⟩) k cap) (xs.take k) := by
  refine ⟨h.1.take k, by simp, ?_⟩
  rcases h.2.2 with ⟨h, _⟩ | ⟨g', cap', cur, hv, hb, hg, hc, hm, hs, ht⟩
  · cases h
  · simp only [Value.slice.injEq, Option.some.injEq, Addr.mk.injEq] at hv
    obtain ⟨⟨rfl, _, _⟩, _, rfl⟩ := hv
    have hl : (xs.take k).length = k := by simp; omega
    refine .inr ⟨g, cap, cur, by rw [hl], hb, hg, by rw [hl]; omega, hm, hs, ?_⟩
    rw [hl, List.map_take, ← ht, List.take_take]
    congr 1; omega

/-- The shape of what is owned. -/
theorem Ow.shape {w : World} {base : Nat} {v : Value} {xs : List Nat} (h : Ow w base v xs) :
    (v = .slice none 0 0 ∧ xs = []) ∨ ∃ g cap, v = .slice (some ⟨g, 0, none⟩) xs.length cap ∧ base ≤ g ∧ g < w.heap.size ∧ xs.length ≤ cap ∧ cap ≤ maxLen ∧
      (∀ (k x : Nat), xs[k]? = some x → w.cell? ⟨g, k, none⟩ = some (.int .u32 (x : Int))) ∧ ∀ k : Nat, w.frozen? ⟨g, k, none⟩ = false := by
  have h2 := h.2
  rcases h2.2 with ⟨rfl, hn⟩ | ⟨g, cap, cur, rfl, hb, hg, hc, hm, hs, ht⟩
  · exact .inl ⟨rfl, List.eq_nil_of_length_eq_zero hn⟩
  · refine .inr ⟨g, cap, rfl, hb, (Array.getElem?_eq_some_iff.1 hg).1, hc, hm, ?_, fun k => World.ownsRow.frozenAt h2 k⟩
    intro k x hk
    have hlt : k < xs.length := (List.getElem?_eq_some_iff.1 hk).1
    rw [World.ownsRow.cellAt h2 k (by omega)]
    simp [hk, U]

/-- A slice value's length. -/
def lenOfV : Value → Nat
  | .slice _ n _ => n
  | _ => 0

/-- A new block of limbs. -/
theorem Ow.lit {w : World} {base : Nat} {xs : List Nat} {cs : Array Value} (hl : Lim xs) (hb : base ≤ w.heap.size) (hc : cs.toList = xs.map U) (hm : xs.length ≤ maxLen) :
    Ow (w.alloc (.cells cs 43)) base (.slice (some ⟨w.heap.size, 0, none⟩) xs.length xs.length) xs := by
  have hs : cs.size = xs.length * 1 := by rw [← Array.length_toList, hc]; simp
  have := World.ownsRow_lit (e := 43) (size := 1) (base := base) w cs xs.length hb hm hs
  rw [hc] at this
  exact ⟨hl, this⟩

theorem info_u32 : (Try.prog.info? 43).map (fun i => (i.zero, i.size, i.bytes)) = some (some (.int .u32 0), 1, 4) := by kernel_rfl
theorem under_row : Try.prog.underlying 36 = some (.slice 43) := by kernel_rfl

/-- A limb stored into an owned row. -/
theorem Ow.store {w : World} {base g n cap : Nat} {xs : List Nat} (h : Ow w base (.slice (some ⟨g, 0, none⟩) n cap) xs) (hn : n = xs.length) (k z : Nat) (hz : z < 4294967296) :
    Ow (w.setCell ⟨g, k, none⟩ (.int .u32 (z : Int))) base (.slice (some ⟨g, 0, none⟩) n cap) (xs.set k z) ∧ w.grownBy (w.setCell ⟨g, k, none⟩ (.int .u32 (z : Int))) (some g) := by
  subst hn
  have hs := World.ownsRow.stored h.2 k (.int .u32 (z : Int))
  refine ⟨⟨?_, ?_⟩, hs.2⟩
  · intro y hy
    rcases List.mem_or_eq_of_mem_set hy with hy | rfl
    · exact h.1 y hy
    · exact hz
  · have h1 := hs.1
    rw [List.length_set, List.map_set]
    exact h1

/-- The same, at the number as the walk writes it; and below the call's own memory nothing turns. -/
theorem Ow.put {w w0 : World} {base g n cap B : Nat} {xs : List Nat} (h : Ow w base (.slice (some ⟨g, 0, none⟩) n cap) xs) (hb : Below B w0 w) (hB : B ≤ g) (hn : n = xs.length) {k z : Nat} {V : Int} (hV : V = (z : Int)) (hz : z < 4294967296) {ys : List Nat} (hys : xs.set k z = ys) :
    Ow (w.setCell ⟨g, k, none⟩ (.int .u32 V)) base (.slice (some ⟨g, 0, none⟩) n cap) ys ∧ Below B w0 (w.setCell ⟨g, k, none⟩ (.int .u32 V)) := by
  subst hV; subst hys
  exact ⟨(h.store hn k z hz).1, hb.setCell (p := ⟨g, k, none⟩) hB _⟩

theorem Ow.at {w : World} {base g n cap : Nat} {xs : List Nat} (h : Ow w base (.slice (some ⟨g, 0, none⟩) n cap) xs) {k x : Nat} (hk : xs[k]? = some x) :
    w.cell? ⟨g, k, none⟩ = some (.int .u32 (x : Int)) ∧ w.frozen? ⟨g, k, none⟩ = false := by
  rcases h.shape with ⟨hv, _⟩ | ⟨g', cap', hv, _, _, _, _, hx, hf⟩
  · cases hv
  · simp only [Value.slice.injEq, Option.some.injEq, Addr.mk.injEq, and_true] at hv
    obtain ⟨rfl, _⟩ := hv
    exact ⟨hx k x hk, hf k⟩

theorem Ow.len {w : World} {base : Nat} {ao : Option Addr} {n cap : Nat} {xs : List Nat} (h : Ow w base (.slice ao n cap) xs) : n = xs.length := by
  rcases h.shape with ⟨hv, rfl⟩ | ⟨g', cap', hv, _⟩
  · simp only [Value.slice.injEq] at hv; simp [hv.2.1]
  · simp only [Value.slice.injEq] at hv; exact hv.2.1

theorem get_mid {L : List Nat} {x : Nat} {R : List Nat} {k : Nat} (hk : L.length = k) : (L ++ x :: R)[k]? = some x := by subst hk; simp

theorem set_mid {α : Type} (L : List α) (x z : α) (R : List α) (k : Nat) (hk : L.length = k) : (L ++ x :: R).set k z = L ++ z :: R := by
  subst hk; simp

theorem U_one (xs : List Nat) : ∀ u ∈ xs.map U, u.oneCell' = true := by
  intro u hu
  obtain ⟨x, _, rfl⟩ := List.mem_map.1 hu
  rfl

/-- copy into an owned row, from whatever row. -/
theorem run_copy_own {w : World} {base g n cap cap' : Nat} {ao : Option Addr} {zs xs : List Nat} (ho : Ow w base (.slice (some ⟨g, 0, none⟩) n cap) zs) (hn : n = zs.length)
    (hs : Sl w (.slice ao xs.length cap') xs) (hle : xs.length ≤ n) :
    ∃ w', (Builtin.copy_ #[36, 36] 3 #[.slice (some ⟨g, 0, none⟩) n cap, .slice ao xs.length cap']).run Try.prog w = .ok (goInt xs.length) w' ∧
      Ow w' base (.slice (some ⟨g, 0, none⟩) n cap) (xs ++ zs.drop xs.length) ∧ w.grownBy w' (some g) := by
  subst hn
  have hsz : (Try.prog.info? 43).map (·.size) = some 1 := by kernel_rfl
  by_cases h0 : xs.length = 0
  · obtain rfl : xs = [] := List.eq_nil_of_length_eq_zero h0
    have := run_copy_none (P := Try.prog) w 36 36 3 43 (some ⟨g, 0, none⟩) ao zs.length cap 0 cap' under_row hsz (by simp)
    exact ⟨w, this, by simpa using ho, World.grownBy.refl _ _⟩
  · obtain ⟨_, ao', c', hv, hc, hm, hx⟩ := id hs
    · simp only [Value.slice.injEq] at hv
      obtain ⟨rfl, _, rfl⟩ := hv
      obtain ⟨g', off, rfl, hg, hx⟩ := hx (by omega)
      rcases ho.2.2 with ⟨hv, _⟩ | ⟨g2, cap2, cur, hv, hb, hg2, hc2, hm2, hs2, ht2⟩
      · simp at hv
      · simp only [Value.slice.injEq, Option.some.injEq, Addr.mk.injEq, and_true, true_and] at hv
        obtain ⟨rfl, rfl⟩ := hv
        have hmin : xs.length = Nat.min xs.length zs.length := (Nat.min_eq_left hle).symm
        have hcur : zs.length ≤ cur.size := by omega
        have := run_copy_row (P := Try.prog) w 36 36 3 43 g 0 zs.length cap ⟨g', off, none⟩ xs.length cap' cur 43 (xs.map U) under_row hsz hg2
          (by simpa using hmin) (by
            intro j v hj
            simp only [List.getElem?_map, Option.map_eq_some_iff] at hj
            obtain ⟨x, hx1, rfl⟩ := hj
            rw [Addr.add_lit]
            exact hx j x hx1) (by simp; omega) (U_one xs)
        refine ⟨_, by simpa using this, ⟨?_, ?_, .inr ⟨g, cap, _, by rw [List.length_append, List.length_drop, show xs.length + (zs.length - xs.length) = zs.length by omega], hb, setRow_heap w g cur _ 43 _ hg2, ?_, hm2, ?_, ?_⟩⟩, ?_⟩
        · exact Lim.append hs.1 (fun y hy => ho.1 y (List.mem_of_mem_drop hy))
        · simp
        · simp; omega
        · simp; omega
        · have hl : (xs.map U).length = xs.length := by simp
          rw [List.length_append, List.length_drop, show xs.length + (zs.length - xs.length) = zs.length by omega]
          simp only [List.map_append, List.map_drop, ← ht2, List.drop_take, Nat.mul_one]
          rw [List.take_append, hl, List.take_of_length_le (by simp; omega)]
        · exact ⟨rfl, rfl, rfl, by simp [World.setRow], fun k _ hk => setRow_other w g k _ (fun e => hk (by simp [e]))⟩

theorem ret2i {k : IntKind} {v : Value} {a b : Int} (h : a = b) : Ending.returned (.tuple #[v, .int k a]) = .returned (.tuple #[v, .int k b]) := by rw [h]
theorem ret2 {k k' : IntKind} {a b c d : Int} (h : a = b) (h' : c = d) : Ending.returned (.tuple #[.int k a, .int k' c]) = .returned (.tuple #[.int k b, .int k' d]) := by rw [h, h']
theorem ret1i {k : IntKind} {a b : Int} (h : a = b) : Ending.returned (.int k a) = .returned (.int k b) := by rw [h]
theorem ret1b {a b : Bool} (h : a = b) : Ending.returned (.bool a) = .returned (.bool b) := by rw [h]

/-- A row that is read, nil or not, in one form. -/
theorem Sl.flat {w : World} {v : Value} {xs : List Nat} (h : Sl w v xs) : ∃ ao cap, v = .slice ao xs.length cap ∧ xs.length ≤ cap ∧ cap ≤ maxLen ∧
    ∀ k : Nat, k < xs.length → ∃ g off x, ao = some ⟨g, off, none⟩ ∧ xs[k]? = some x ∧ x < 4294967296 ∧ w.cell? ⟨g, off + k, none⟩ = some (.int .u32 (x : Int)) := by
  obtain ⟨hl, ao, cap, rfl, hc, hm, hx⟩ := h
  refine ⟨ao, cap, rfl, hc, hm, fun k hk => ?_⟩
  obtain ⟨g, off, rfl, hg, hx⟩ := hx (by omega)
  obtain ⟨x, hx'⟩ := exists_get hk
  exact ⟨g, off, x, rfl, hx', hl.get hx', hx k x hx'⟩

theorem Sl.flat' {w : World} {ao : Option Addr} {n cap : Nat} {xs : List Nat} (h : Sl w (.slice ao n cap) xs) : n = xs.length ∧
    ∀ k : Nat, k < xs.length → ∃ g off x, ao = some ⟨g, off, none⟩ ∧ xs[k]? = some x ∧ x < 4294967296 ∧ w.cell? ⟨g, off + k, none⟩ = some (.int .u32 (x : Int)) := by
  obtain ⟨ao', cap', hv, _, _, hx⟩ := h.flat
  simp only [Value.slice.injEq] at hv
  obtain ⟨rfl, rfl, rfl⟩ := hv
  exact ⟨rfl, hx⟩

theorem Ow.drewN {w : World} {base : Nat} {v : Value} {xs : List Nat} (h : Ow w base v xs) (n : Nat) : Ow (w.drewN n) base v xs := h

theorem Ow.nil (w : World) (base : Nat) : Ow w base (.slice none 0 0) [] := ⟨Lim.nil, World.ownsRow_nil _ _ _ _⟩

end Go.Proofs.Ytfifgmcjilkigaa
