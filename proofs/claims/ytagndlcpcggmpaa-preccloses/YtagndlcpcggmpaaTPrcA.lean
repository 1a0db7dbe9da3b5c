/- Rows of bits of package prec: has, with, withAll. -/
import Derived.Test.YtagndlcpcggmpaaTPrcP
import Derived.Test.YtagndlcpcggmpaaTBase
import Derived.Laws.Rows
import Derived.Laws.ResultCell
import Derived.Laws.Shifts
import Derived.Deep.MidRow
import Derived.Laws.Bits64b
import Derived.BigRegion
namespace Go.Proofs.Ytagndlcpcggmpaa
open Go.RowKit Go.Maps

def U64 (x : Nat) : Value := .int .u64 (x : Int)

def rowV (a b : Nat) : Value := .agg #[U64 a, U64 b]

def rowHas (a b g : Nat) : Bool := (if g < 64 then a else b).testBit (g % 64)

theorem hidP {p : Prop} (h : p) : Hid p := h

theorem below_setRow {B : Nat} {a w : World} (h : Below B a w) {g : Nat} (hg : B ≤ g) {cs : Array Value} : Below B a (w.setRow g cs) :=
  h.trans ⟨rfl, rfl, rfl, by simp [World.setRow], fun k hk => setRow_other w g k _ (by omega)⟩

theorem isSymbol_any (n c : Int) (w : World) : Calls Try.prog 14 #[.int .i64 n, .int .i64 c] w fun e w' => e = .returned (.bool (decide (0 ≤ c ∧ c < n))) ∧ w' = w := by
  by_cases h1 : 0 ≤ c
  · by_cases h2 : c < n
    · go_enter Try.func14, Try.ntmps14
      go_wp2
      go_ret
      exact ⟨ret1b (by simp [h1, h2]), rfl⟩
    · have h2' : n ≤ c := by omega
      go_enter Try.func14, Try.ntmps14
      go_wp2
      go_ret
      exact ⟨ret1b (by simp; omega), rfl⟩
  · have h1' : c < 0 := by omega
    go_enter Try.func14, Try.ntmps14
    go_wp2
    go_ret
    exact ⟨ret1b (by simp; omega), rfl⟩

theorem bit_and {a s : Nat} (ha : a < 18446744073709551616) : bits .and .u64 ((a : Int) / 2 ^ s) 1 = if a.testBit s then 1 else 0 := by
  have h1 : ((a : Int) / 2 ^ s) = ((a / 2 ^ s : Nat) : Int) := by simp
  have h2 : a / 2 ^ s < 18446744073709551616 := Nat.lt_of_le_of_lt (Nat.div_le_self _ _) ha
  rw [h1]
  have := bits_and_u64_nat (a / 2 ^ s) 1 h2 (by decide)
  rw [show ((1 : Nat) : Int) = 1 from rfl] at this
  rw [this, Nat.and_one_is_mod, Nat.testBit_eq_decide_div_mod_eq]
  have := Nat.mod_two_eq_zero_or_one (a / 2 ^ s)
  rcases this with h | h <;> rw [h] <;> simp

theorem bit_eq {a s : Nat} (ha : a < 18446744073709551616) : (bits .and .u64 ((a : Int) / 2 ^ s) 1 == 1) = a.testBit s := by
  rw [bit_and ha]
  cases a.testBit s <;> simp

theorem has_any (a b g : Nat) (w : World) (ha : a < 18446744073709551616) (hb : b < 18446744073709551616) (hg : g < 128) :
    Calls Try.prog 18 #[rowV a b, .int .i64 g] w fun e w' => e = .returned (.bool (rowHas a b g)) ∧ Below w.heap.size w w' := by
  obtain ⟨s, hs⟩ : ∃ s, g % 64 = s := ⟨_, rfl⟩
  have hsl : s < 64 := by omega
  have hs2 : (g : Int) % 64 = (s : Int) := by omega
  by_cases h64 : g < 64
  · have hd : g / 64 = 0 := by omega
    have hd2 : (g : Int) / 64 = 0 := by omega
    have hh : rowHas a b g = a.testBit s := by unfold rowHas; rw [if_pos h64, hs]
    rw [hh]
    have he := bit_eq (s := s) ha
    clear hh hs
    unfold rowV U64
    go_enter Try.func18, Try.ntmps18
    go_wp2
    go_ret
    exact ⟨rfl, below_alloc _⟩
  · have hd : g / 64 = 1 := by omega
    have hd2 : (g : Int) / 64 = 1 := by omega
    have hh : rowHas a b g = b.testBit s := by unfold rowHas; rw [if_neg h64, hs]
    rw [hh]
    have he := bit_eq (s := s) hb
    clear hh hs
    unfold rowV U64
    go_enter Try.func18, Try.ntmps18
    go_wp2
    go_ret
    exact ⟨rfl, below_alloc _⟩

theorem bit_or {a s : Nat} (ha : a < 18446744073709551616) (hs : s < 64) : bits .or .u64 (a : Int) (IntKind.u64.wrap (2 ^ s)) = ((a ||| 2 ^ s : Nat) : Int) := by
  have h1 := two_pow_lt s hs
  have h2 : IntKind.u64.wrap (2 ^ s) = ((2 ^ s : Nat) : Int) := by
    rw [IntKind.wrap_u64]
    have : (2 : Int) ^ s = ((2 ^ s : Nat) : Int) := by simp
    rw [this]
    generalize 2 ^ s = p at h1
    omega
  rw [h2, bits_or_u64_nat _ _ ha h1]

/-- A block that holds a row of bits. -/
def Rw2 (w : World) (g x y : Nat) : Prop := w.heap[g]? = some (.cells #[U64 x, U64 y] 41 (0, 0))

def rowWith (a b g : Nat) : Value := if g < 64 then rowV (a ||| 2 ^ (g % 64)) b else rowV a (b ||| 2 ^ (g % 64))

theorem info_row : (Try.prog.info? 41).map (·.size) = some 2 := by kernel_rfl

theorem under_row : Try.prog.underlying 41 = some (.array 2 39) := by kernel_rfl

theorem row_one (x y : Nat) : (#[U64 x, U64 y] : Array Value).all (·.oneCell') = true := by
  rw [Array.all_eq_true_iff_forall_mem]
  intro v hv
  simp only [List.mem_toArray, List.mem_cons, List.not_mem_nil, or_false] at hv
  rcases hv with rfl | rfl <;> rfl

theorem with_any (a b g : Nat) (w : World) (ha : a < 18446744073709551616) (hb : b < 18446744073709551616) (hg : g < 128) :
    Calls Try.prog 15 #[rowV a b, .int .i64 g] w fun e w' => e = .returned (rowWith a b g) ∧ Below w.heap.size w w' := by
  obtain ⟨s, hs⟩ : ∃ s, g % 64 = s := ⟨_, rfl⟩
  have hsl : s < 64 := by omega
  have hs2 : (g : Int) % 64 = (s : Int) := by omega
  by_cases h64 : g < 64
  · have hd : g / 64 = 0 := by omega
    have hd2 : (g : Int) / 64 = 0 := by omega
    have hh : rowWith a b g = rowV (a ||| 2 ^ s) b := by unfold rowWith; rw [if_pos h64, hs]
    rw [hh]
    have he := bit_or ha hsl
    clear hh hs
    unfold rowV U64
    go_enter Try.func15, Try.ntmps15
    go_wp2
    go_region
    go_wp2
    refine bodyPost_ret (v := .agg #[U64 (a ||| 2 ^ s), U64 b]) (results_cell_row rfl _ _ (w.heap.size + 1) 41 _ (0, 0) _ rfl (heap_alloc2_new _ _ _) under_row rfl (by rw [info_row]; rfl)) rfl ⟨rfl, ?_⟩
    exact (below_step (below_alloc _) (below_alloc _)).drew
  · have hd : g / 64 = 1 := by omega
    have hd2 : (g : Int) / 64 = 1 := by omega
    have hh : rowWith a b g = rowV a (b ||| 2 ^ s) := by unfold rowWith; rw [if_neg h64, hs]
    rw [hh]
    have he := bit_or hb hsl
    clear hh hs
    unfold rowV U64
    go_enter Try.func15, Try.ntmps15
    go_wp2
    go_region
    go_wp2
    refine bodyPost_ret (v := .agg #[U64 a, U64 (b ||| 2 ^ s)]) (results_cell_row rfl _ _ (w.heap.size + 1) 41 _ (0, 0) _ rfl (heap_alloc2_new _ _ _) under_row rfl (by rw [info_row]; rfl)) rfl ⟨rfl, ?_⟩
    exact (below_step (below_alloc _) (below_alloc _)).drew

theorem withAll_any (a b c d : Nat) (w : World) (ha : a < 18446744073709551616) (hb : b < 18446744073709551616) (hc : c < 18446744073709551616) (hd : d < 18446744073709551616) :
    Calls Try.prog 19 #[rowV a b, rowV c d] w fun e w' => e = .returned (rowV (a ||| c) (b ||| d)) ∧ Below w.heap.size w w' := by
  have h1 := bits_or_u64_nat a c ha hc
  have h2 := bits_or_u64_nat b d hb hd
  unfold rowV U64
  have i0 : ∀ w, (Instr.index 41 (.agg #[.int .u64 (c : Int), .int .u64 (d : Int)]) (.int .i64 0)).run Try.prog w = .ok (.int .u64 (c : Int)) w := fun _ => by kernel_rfl
  have i1 : ∀ w, (Instr.index 41 (.agg #[.int .u64 (c : Int), .int .u64 (d : Int)]) (.int .i64 1)).run Try.prog w = .ok (.int .u64 (d : Int)) w := fun _ => by kernel_rfl
  go_enter Try.func19, Try.ntmps19
  go_wp2
  go_loopw [8] (fun i wr => ∃ k : Nat, k ≤ 2 ∧ i = .int .i64 k ∧ Rw2 wr w.heap.size (if k = 0 then a else a ||| c) (if k ≤ 1 then b else b ||| d) ∧ Rw2 wr (w.heap.size + 2) 0 0 ∧ Below w.heap.size w wr) (fun i _ => 2 - (intOf i).toNat)
  case atStart =>
    refine ⟨0, by omega, rfl, ?_, ?_, ?_⟩
    · show (((w.heap.push _).push _).push _)[w.heap.size]? = _
      simp only [Array.getElem?_push, Array.size_push]
      rw [if_neg (by omega), if_neg (by omega), if_pos trivial]
      rfl
    · show (((w.heap.push _).push _).push _)[w.heap.size + 2]? = _
      simp only [Array.getElem?_push, Array.size_push]
      rw [if_pos trivial]
      rfl
    · exact below_step (below_step (below_alloc _) (below_alloc _)) (below_alloc _)
  case round =>
    obtain ⟨k, hk, rfl, h3, h4, hbl⟩ := hrel
    have H3 : Hid (Rw2 wr w.heap.size (if k = 0 then a else a ||| c) (if k ≤ 1 then b else b ||| d)) := h3
    have H4 : Hid (Rw2 wr (w.heap.size + 2) 0 0) := h4
    clear h3 h4
    have HB : Hid (Below w.heap.size w wr) := hbl
    clear hbl
    by_cases hk2 : k < 2
    · rcases (show k = 0 ∨ k = 1 by omega) with rfl | rfl
      · have hcell : wr.cell? ⟨w.heap.size, 0, none⟩ = some (.int .u64 (a : Int)) := cell_of_row wr w.heap.size 0 _ _ _ H3.out
        have hfr := frozen_of_row wr w.heap.size 0 _ _ H3.out
        go_wp2
        go_roundw
        case rel =>
          refine ⟨1, by omega, rfl, ?_, ?_, HB.out.setCell (p := ⟨w.heap.size, 0, none⟩) (Nat.le_refl _) _⟩
          · have := heap_setCell_same wr w.heap.size 0 _ _ (.int .u64 ((a ||| c : Nat) : Int)) H3.out
            exact this
          · exact (heap_setCell_other _ _ _ _ (by simp)).trans H4.out
        case measure => simp [intOf]
      · have hcell : wr.cell? ⟨w.heap.size, 1, none⟩ = some (.int .u64 (b : Int)) := cell_of_row wr w.heap.size 1 _ _ _ H3.out
        have hfr := frozen_of_row wr w.heap.size 1 _ _ H3.out
        go_wp2
        go_roundw
        case rel =>
          refine ⟨2, by omega, rfl, ?_, ?_, HB.out.setCell (p := ⟨w.heap.size, 1, none⟩) (Nat.le_refl _) _⟩
          · have := heap_setCell_same wr w.heap.size 1 _ _ (.int .u64 ((b ||| d : Nat) : Int)) H3.out
            exact this
          · exact (heap_setCell_other _ _ _ _ (by simp)).trans H4.out
        case measure => simp [intOf]
    · obtain rfl : k = 2 := by omega
      go_wp2_with (first
        | (refine wpList_load_row rfl _ _ rfl w.heap.size rfl _ _ _ _ H3.out under_row rfl (by rw [info_row]; rfl) ?_)
        | (refine wpList_store_row rfl _ _ _ rfl (w.heap.size + 2) #[U64 (a ||| c), U64 (b ||| d)] rfl rfl _ _ H4.out (by rw [info_row]; rfl) rfl (row_one _ _) ?_))
      refine bodyPost_ret (results_cell_row rfl _ _ (w.heap.size + 2) _ #[U64 (a ||| c), U64 (b ||| d)] (0, 0) _ rfl (setRow_heap wr _ _ _ _ _ H4.out) under_row rfl (by rw [info_row]; rfl)) rfl ?_
      exact ⟨rfl, below_setRow HB.out (by omega)⟩

end Go.Proofs.Ytagndlcpcggmpaa
