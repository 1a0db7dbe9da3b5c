/- Bytes that a call owns, turned round in place. -/
import Derived.Test.YtaekpijpkblkgaaTen
namespace Go.Proofs.Ytaekpijpkblkgaa
open Go.RowKit

/-- A byte as a value. -/
def V8 (b : UInt8) : Value := .int .u8 (b.toNat : Int)

/-- The slice value v is the call's own and holds the bytes bs. -/
def Ob (w : World) (base : Nat) (v : Value) (bs : List UInt8) : Prop := w.ownsRow base 5 1 v bs.length (bs.map V8)

theorem Ob.shape {w : World} {base : Nat} {v : Value} {bs : List UInt8} (h : Ob w base v bs) :
    (v = .slice none 0 0 ∧ bs = []) ∨ ∃ g cap, v = .slice (some ⟨g, 0, none⟩) bs.length cap ∧ base ≤ g ∧ g < w.heap.size ∧ bs.length ≤ cap ∧ cap ≤ maxLen ∧
      (∀ (k : Nat) (b : UInt8), bs[k]? = some b → w.cell? ⟨g, k, none⟩ = some (.int .u8 (b.toNat : Int))) ∧ ∀ k : Nat, w.frozen? ⟨g, k, none⟩ = false := by
  rcases h.2 with ⟨rfl, hn⟩ | ⟨g, cap, cur, rfl, hb, hg, hc, hm, hs, ht⟩
  · exact .inl ⟨rfl, List.eq_nil_of_length_eq_zero hn⟩
  · refine .inr ⟨g, cap, rfl, hb, (Array.getElem?_eq_some_iff.1 hg).1, hc, hm, ?_, fun k => World.ownsRow.frozenAt h k⟩
    intro k b hk
    have hlt : k < bs.length := (List.getElem?_eq_some_iff.1 hk).1
    rw [World.ownsRow.cellAt h k (by omega)]
    simp [hk, V8]

theorem Ob.store {w : World} {base g n cap : Nat} {bs : List UInt8} (h : Ob w base (.slice (some ⟨g, 0, none⟩) n cap) bs) (hn : n = bs.length) (k : Nat) (b : UInt8) :
    Ob (w.setCell ⟨g, k, none⟩ (.int .u8 (b.toNat : Int))) base (.slice (some ⟨g, 0, none⟩) n cap) (bs.set k b) ∧ w.grownBy (w.setCell ⟨g, k, none⟩ (.int .u8 (b.toNat : Int))) (some g) := by
  subst hn
  have hs := World.ownsRow.stored h k (.int .u8 (b.toNat : Int))
  refine ⟨?_, hs.2⟩
  have h1 := hs.1
  unfold Ob
  rw [List.length_set, List.map_set]
  exact h1

theorem Ob.drew {w : World} {base : Nat} {v : Value} {bs : List UInt8} (h : Ob w base v bs) : Ob w.drew base v bs := h

theorem exists_getB {bs : List UInt8} {k : Nat} (h : k < bs.length) : ∃ b, bs[k]? = some b := ⟨bs[k], List.getElem?_eq_getElem h⟩

/-- After k exchanges from both ends. -/
def Half (L C : List UInt8) (k : Nat) : Prop := C.length = L.length ∧ ∀ p, p < L.length → C[p]? = if p < k ∨ L.length - k ≤ p then L[L.length - 1 - p]? else L[p]?

theorem Half.zero (L : List UInt8) : Half L L 0 := ⟨rfl, fun p hp => by rw [if_neg (by omega)]⟩

theorem Half.step {L C : List UInt8} {k m : Nat} {a b : UInt8} (h : Half L C k) (hm : m + 1 + k = L.length) (hk : k < m) (ha : C[k]? = some a) (hb : C[m]? = some b) : Half L ((C.set k b).set m a) (k + 1) := by
  refine ⟨by simp [h.1], fun p hp => ?_⟩
  have h1 := h.2 k (by omega)
  have h2 := h.2 m (by omega)
  rw [if_neg (by omega), ha] at h1
  rw [if_neg (by omega), hb] at h2
  by_cases e1 : p = m
  · subst e1
    rw [List.getElem?_set_self (by simp [h.1]; omega), if_pos (by omega), show L.length - 1 - p = k by omega, ← h1]
  · rw [List.getElem?_set_ne (by omega)]
    by_cases e2 : p = k
    · subst e2
      rw [List.getElem?_set_self (by rw [h.1]; omega), if_pos (by omega), show L.length - 1 - p = m by omega, ← h2]
    · rw [List.getElem?_set_ne (by omega), h.2 p hp]
      by_cases e3 : p < k ∨ L.length - k ≤ p
      · rw [if_pos e3, if_pos (by omega)]
      · rw [if_neg e3, if_neg (by omega)]

theorem Half.done {L C : List UInt8} {k : Nat} (h : Half L C k) (hk : L.length ≤ 2 * k + 1) : C = L.reverse := by
  apply List.ext_getElem?
  intro p
  by_cases hp : p < L.length
  · rw [h.2 p hp, List.getElem?_reverse hp]
    by_cases e : p < k ∨ L.length - k ≤ p
    · rw [if_pos e]
    · rw [if_neg e, show L.length - 1 - p = p by omega]
  · rw [List.getElem?_eq_none (by rw [h.1]; omega), List.getElem?_eq_none (by simp; omega)]

set_option maxHeartbeats 800000 in
theorem reverse_any (g n cap base : Nat) (L : List UInt8) (w : World) (h : Ob w base (.slice (some ⟨g, 0, none⟩) n cap) L) (hn : n = L.length) :
    Calls Try.prog 36 #[.slice (some ⟨g, 0, none⟩) n cap] w fun e w' => e = .returned (.tuple #[]) ∧ Ob w' base (.slice (some ⟨g, 0, none⟩) n cap) L.reverse ∧ w.grownBy w' (some g) := by
  subst hn
  have hmx : L.length ≤ 9223372036854775807 := by
    rcases h.shape with ⟨hv, rfl⟩ | ⟨g', cap', hv, _, _, hc, hm, _⟩
    · simp
    · unfold maxLen at hm; omega
  have HO : Hid (Ob w base (.slice (some ⟨g, 0, none⟩) L.length cap) L) := h
  clear h
  go_enter Try.func36, Try.ntmps36
  go_wp2
  go_loopw [2, 3] (fun i j wr => ∃ (k : Nat) (C : List UInt8), k ≤ L.length ∧ i = .int .i64 k ∧ j = .int .i64 ((L.length : Int) - 1 - k) ∧ Half L C k ∧
      Ob wr base (.slice (some ⟨g, 0, none⟩) L.length cap) C ∧ w.grownBy wr (some g)) (fun i _ _ => L.length - (intOf i).toNat)
  case atStart => exact ⟨0, L, Nat.zero_le _, rfl, by go_num, Half.zero L, HO.out, World.grownBy.refl _ _⟩
  case round =>
    obtain ⟨k, C, hk, rfl, rfl, hhalf, hown, hgr⟩ := hrel
    have HH : Hid (Half L C k) := hhalf
    have HW : Hid (Ob wr base (.slice (some ⟨g, 0, none⟩) L.length cap) C) := hown
    have hC : C.length = L.length := hhalf.1
    have HC : Hid (C.length = L.length) := hC
    clear hhalf hown hC HO
    by_cases hlt : k < L.length - 1 - k
    · obtain ⟨m, hm⟩ : ∃ m, m + 1 + k = L.length := ⟨L.length - 1 - k, by omega⟩
      have hkm : k < m := by omega
      have hml : m < L.length := by omega
      rw [show (L.length : Int) - 1 - k = (m : Int) by omega]
      obtain ⟨a, ha⟩ := exists_getB (bs := C) (k := k) (by rw [HC.out]; omega)
      obtain ⟨b, hb⟩ := exists_getB (bs := C) (k := m) (by rw [HC.out]; omega)
      have hsh := HW.out.shape
      rcases hsh with ⟨hv, _⟩ | ⟨g', cap', hv, _, _, _, _, hx, hf⟩
      · cases hv
      simp only [Value.slice.injEq, Option.some.injEq, Addr.mk.injEq, and_true] at hv
      obtain ⟨rfl, _, rfl⟩ := hv
      have hca := hx k a ha
      have hcb := hx m b hb
      have hfa := hf k
      have hfb := hf m
      have ha256 : a.toNat < 256 := a.toNat_lt
      have hb256 : b.toNat < 256 := b.toNat_lt
      have HM : Hid (m + 1 + k = L.length) := hm
      have HA : Hid (C[k]? = some a) := ha
      have HB : Hid (C[m]? = some b) := hb
      clear hx hf ha hb hm
      have h1 := HW.out.store (by rw [HC.out]) k b
      have h2 := h1.1.store (by rw [List.length_set, HC.out]) m a
      have HP : Hid (Ob ((wr.setCell ⟨g, k, none⟩ (.int .u8 (b.toNat : Int))).setCell ⟨g, m, none⟩ (.int .u8 (a.toNat : Int))).drew base (.slice (some ⟨g, 0, none⟩) L.length cap) ((C.set k b).set m a) ∧
          w.grownBy ((wr.setCell ⟨g, k, none⟩ (.int .u8 (b.toNat : Int))).setCell ⟨g, m, none⟩ (.int .u8 (a.toNat : Int))).drew (some g)) := ⟨h2.1, grown_trans (grown_trans hgr h1.2) ⟨h2.2.os, h2.2.tape, h2.2.output, h2.2.size, h2.2.block⟩⟩
      clear h1 h2
      go_wp2
      go_region
      go_wp2
      go_roundw
      case rel => exact ⟨k + 1, _, by omega, by go_num, by have := HM.out; go_num, HH.out.step HM.out hkm HA.out HB.out, HP.out.1, HP.out.2⟩
      case measure => simp [intOf]; omega
    · go_wp2
      go_end0
      refine ⟨rfl, ?_, hgr⟩
      rw [← HH.out.done (by omega)]
      exact HW.out

end Go.Proofs.Ytaekpijpkblkgaa
