/- What the laws on sums, products and compositions share. -/
import Derived.Test.YtfifgmcjilkigaaPRefS
import Derived.Test.YtfifgmcjilkigaaPSpoil
import Derived.Test.YtfifgmcjilkigaaPShown
import Derived.Test.YtfifgmcjilkigaaPMulR
namespace Go.Proofs.Ytfifgmcjilkigaa
open Go.RowKit Go.Maps

/-- The blocks that are not an answer's: from b on and below t. -/
def awayB (b t : Nat) (g : Nat) : Bool := decide (g < b ∨ t ≤ g)

theorem away_new {b t g : Nat} (h : t ≤ g) : awayB b t g = true := by unfold awayB; rw [decide_eq_true_eq]; exact .inr h

/-- What was there ahead of the answer, behind it. -/
theorem away_old {w3 w4 : World} (h : Below w3.heap.size w3 w4) : Kp w3 (only (awayB w3.heap.size w4.heap.size) w4) :=
  (only_old fun g hg => by unfold awayB; rw [decide_eq_true_eq]; exact .inl hg).trans (only_below h)

theorem away_spl {b t : Nat} {w w' : World} (h : Spl b t w w') : Kp (only (awayB b t) w) (only (awayB b t) w') :=
  only_step h.size fun g hg hA => h.block g hg (by unfold awayB at hA; rw [decide_eq_true_eq] at hA; exact hA)

/-- What an answer is spoilt by lies above b. -/
theorem spl_below {b t : Nat} {w0 w w' : World} (h : Below b w0 w) (hs : Spl b t w w') (hb : b ≤ w.heap.size) : Below b w0 w' :=
  ⟨hs.os.trans h.os, hs.tape.trans h.tape, hs.output.trans h.output, Nat.le_trans h.size hs.size, fun k hk => (hs.block k (by omega) (.inl hk)).trans (h.block k hk)⟩

theorem Ch.lens {p : List Mn} (h : Ch p) : p.length ≤ 256 ∧ ∀ m ∈ p, m.1.length ≤ 64 ∧ m.2.length ≤ 512 :=
  ⟨h.1.len, fun m hm => ⟨length_le_of_right (monB_parts (h.1.mon m hm)).2.1, (h.1.small m hm).1⟩⟩

theorem nil_lens : ([] : List Mn).length ≤ 256 ∧ ∀ m ∈ ([] : List Mn), m.1.length ≤ 64 ∧ m.2.length ≤ 512 := ⟨by simp, fun m hm => (by cases hm)⟩

theorem addPL_lens {p q : List Mn} (hp : ∀ m ∈ p, Lim m.1) (hq : ∀ m ∈ q, Lim m.1) : (addPL p q).length ≤ 256 ∧ ∀ m ∈ addPL p q, m.1.length ≤ 64 ∧ m.2.length ≤ 512 := by
  by_cases h : checkE p 9223372036854775807 = 0 ∧ checkE q 9223372036854775807 = 0
  · have cp : Ch p := ⟨Pol.of hp (by decide) h.1, h.1⟩
    have cq : Ch q := ⟨Pol.of hq (by decide) h.2, h.2⟩
    by_cases h0 : addPE p q = 0
    · exact (cp.add cq h0).lens
    · obtain ⟨f1, f2, _, _⟩ := addP_of h.1 h.2
      rcases sum_spec cp.1 cq.1 with ⟨e, _⟩ | ⟨_, _, e⟩
      · exact absurd (f1.trans e) h0
      · rw [f2, e]
        exact nil_lens
  · rw [(addP_no h).2.1]
    exact nil_lens

theorem mulPL_lens {p q : List Mn} (hp : ∀ m ∈ p, Lim m.1) (hq : ∀ m ∈ q, Lim m.1) : (mulPL p q).length ≤ 256 ∧ ∀ m ∈ mulPL p q, m.1.length ≤ 64 ∧ m.2.length ≤ 512 := by
  by_cases h : checkE p 9223372036854775807 = 0 ∧ checkE q 9223372036854775807 = 0
  · have cp : Ch p := ⟨Pol.of hp (by decide) h.1, h.1⟩
    have cq : Ch q := ⟨Pol.of hq (by decide) h.2, h.2⟩
    by_cases h0 : mulPE p q = 0
    · exact (cp.mul cq h0).lens
    · obtain ⟨_, _, f1, f2⟩ := addP_of h.1 h.2
      rcases prod_spec cp.1 cq.1 with ⟨e, _⟩ | ⟨_, _, e⟩
      · exact absurd (f1.trans e) h0
      · rw [f2, e]
        exact nil_lens
  · rw [(addP_no h).2.2.2]
    exact nil_lens

end Go.Proofs.Ytfifgmcjilkigaa
