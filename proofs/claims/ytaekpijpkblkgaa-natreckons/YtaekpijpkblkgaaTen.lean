/- What dividing a row by ten in place does. -/
import Derived.Test.YtaekpijpkblkgaaTrim
namespace Go.Proofs.Ytaekpijpkblkgaa
open Go.RowKit

theorem grown_trans {a b c : World} {r : Option Nat} (h : a.grownBy b r) (h' : b.grownBy c r) : a.grownBy c r :=
  ⟨h'.os.trans h.os, h'.tape.trans h.tape, h'.output.trans h.output, Nat.le_trans h.size h'.size, fun k hk hr => (h'.block k (Nat.lt_of_lt_of_le hk h.size) hr).trans (h.block k hk hr)⟩

set_option maxHeartbeats 400000 in
theorem ten_any (g n cap base : Nat) (xs : List Nat) (w : World) (h : Ow w base (.slice (some ⟨g, 0, none⟩) n cap) xs) :
    Calls Try.prog 35 #[.slice (some ⟨g, 0, none⟩) n cap] w fun e w' => e = .returned (.int .u64 ((val xs % 10 : Nat) : Int)) ∧
      (∃ qs, Ow w' base (.slice (some ⟨g, 0, none⟩) n cap) qs ∧ val qs = val xs / 10) ∧ w.grownBy w' (some g) := by
  have hn := h.len
  subst hn
  have hmx : xs.length ≤ 9223372036854775807 := by
    rcases h.shape with ⟨hv, rfl⟩ | ⟨g', cap', hv, _, _, hc, hm, _⟩
    · simp
    · unfold maxLen at hm; omega
  have HO : Hid (Ow w base (.slice (some ⟨g, 0, none⟩) xs.length cap) xs) := h
  clear h
  go_enter Try.func35, Try.ntmps35
  go_wp2
  go_loopw [3, 4] (fun o i wr => ∃ (k R : Nat) (Q : List Nat), k ≤ xs.length ∧ i = .int .i64 ((k : Int) - 1) ∧ o = .int .u64 R ∧ R < 10 ∧ Q.length + k = xs.length ∧ val (xs.drop k) = 10 * val Q + R ∧
      Ow wr base (.slice (some ⟨g, 0, none⟩) xs.length cap) (xs.take k ++ Q) ∧ w.grownBy wr (some g)) (fun _ i _ => (intOf i + 1).toNat)
  case atStart => exact ⟨xs.length, 0, [], Nat.le_refl _, rfl, rfl, by omega, by simp, by simp [val], by simpa using HO.out, World.grownBy.refl _ _⟩
  case round =>
    obtain ⟨k, R, Q, hk, rfl, rfl, hR, hQ, hval, hown, hgr⟩ := hrel
    have HV : Hid (val (xs.drop k) = 10 * val Q + R) := hval
    have HQ : Hid (Q.length + k = xs.length) := hQ
    have HW : Hid (Ow wr base (.slice (some ⟨g, 0, none⟩) xs.length cap) (xs.take k ++ Q)) := hown
    clear hval hQ hown
    by_cases hk0 : k = 0
    · subst hk0
      go_wp2
      go_ret
      have hv := HV.out
      rw [List.drop_zero] at hv
      refine ⟨ret1i (by omega), ⟨Q, by simpa using HW.out, by omega⟩, hgr⟩
    · obtain ⟨j, rfl⟩ : ∃ j, k = j + 1 := ⟨k - 1, by omega⟩
      rw [show ((j + 1 : Nat) : Int) - 1 = (j : Int) by omega]
      obtain ⟨x, hx⟩ := exists_get (xs := xs) (k := j) (by omega)
      have hx32 : x < 4294967296 := HO.out.1.get hx
      have hlj : (xs.take j).length = j := by simp; omega
      have hw := HW.out
      rw [take_snoc? hx, List.append_assoc] at hw
      obtain ⟨hcell, hfr⟩ := hw.at (k := j) (get_mid hlj)
      have hp := hw.store (by simp; have := HQ.out; omega) j ((R * 4294967296 + x) / 10) (by omega)
      rw [show xs.take j ++ ([x] ++ Q) = xs.take j ++ x :: Q from rfl, set_mid _ _ _ _ _ hlj] at hp
      have HX : Hid (xs[j]? = some x) := hx
      have hlt : j < xs.length := by omega
      have HP : Hid (Ow (wr.setCell ⟨g, j, none⟩ (.int .u32 (((R * 4294967296 + x) / 10 : Nat) : Int))) base (.slice (some ⟨g, 0, none⟩) xs.length cap) (xs.take j ++ (R * 4294967296 + x) / 10 :: Q) ∧ wr.grownBy (wr.setCell ⟨g, j, none⟩ (.int .u32 (((R * 4294967296 + x) / 10 : Nat) : Int))) (some g)) := hp
      clear hp hw hx hlj
      go_wp2
      go_roundw
      case rel =>
        have hp := HP.out
        rw [show (((R * 4294967296 + x) / 10 : Nat) : Int) = ((R : Int) * 4294967296 + x) / 10 by omega] at hp
        exact ⟨j, (R * 4294967296 + x) % 10, (R * 4294967296 + x) / 10 :: Q, by omega, rfl, by go_num, by omega, by have := HQ.out; simp; omega, div_step HX.out HV.out, hp.1, grown_trans hgr hp.2⟩
      case measure => simp [intOf]

end Go.Proofs.Ytaekpijpkblkgaa
