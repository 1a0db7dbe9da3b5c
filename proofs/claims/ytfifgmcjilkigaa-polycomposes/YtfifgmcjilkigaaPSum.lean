/- What sum and Add answer. -/
import Derived.Test.YtfifgmcjilkigaaPRow
namespace Go.Proofs.Ytfifgmcjilkigaa
open Go.RowKit Go.Maps

/-- What sum answers. -/
def sumE (p q : List Mn) : Int := if (puts [] p).2 = 0 then (puts (puts [] p).1 q).2 else (puts [] p).2
def sumL (p q : List Mn) : List Mn := if sumE p q = 0 then rowL (puts (puts [] p).1 q).1 else []

theorem len_puts {p : List Mn} : ∀ {L : Lk}, (puts L p).2 = 0 → L.length ≤ 256 → (puts L p).1.length ≤ 256 := by
  induction p with
  | nil => intro L _ h; exact h
  | cons m r ih =>
    intro L h hL
    unfold puts at h ⊢
    split at h
    · rename_i h0
      rw [if_pos h0]
      exact ih h (len_putL h0 hL)
    · rename_i h0
      exact absurd h h0

theorem kp_step {w w1 : World} {b : Nat} {o : Obj} (hg : (w.alloc o).grownBy w1 (some b)) (hb : b = w.heap.size) : Kp w w1 ∧ Below w.heap.size w w1 := by
  subst hb
  have h1 : Below w.heap.size w w1 := (below_alloc o).grown hg (below_alloc o).size (fun k hk => by cases hk; exact Nat.le_refl _)
  exact ⟨Kp.of_below h1, h1⟩

set_option maxRecDepth 100000 in
set_option maxHeartbeats 800000 in
theorem psum_any (v u : Value) (p q : List Mn) (w : World) (h : Ms w v p) (h' : Ms w u q) (hs : ∀ (k : Nat) (m : Mn), p[k]? = some m → Small m.2) (hs' : ∀ (k : Nat) (m : Mn), q[k]? = some m → Small m.2) :
    Calls Try.prog 37 #[v, u] w fun e w' => ∃ v', e = .returned (.tuple #[v', .int .i64 (sumE p q)]) ∧ OM w' w.heap.size v' (sumL p q) ∧ Below w.heap.size w w' := by
  have hmm := @run_makeMap Try.prog
  have H0 : Hid (MapOk (w.alloc (.map #[] 0)) w.heap.size w.heap.size []) := MapOk.made w _
  have HP : Hid (Ms (w.alloc (.map #[] 0)) v p) := h.kp (Kp.of_below (below_alloc _))
  have HQ : Hid (Ms w u q) := h'
  have HS : Hid (∀ (k : Nat) (m : Mn), p[k]? = some m → Small m.2) := hs
  have HS' : Hid (∀ (k : Nat) (m : Mn), q[k]? = some m → Small m.2) := hs'
  clear h h' hs hs'
  go_enter Try.func37, Try.ntmps37
  go_wp2_with fail
  clear hmm
  refine (putAll_any w.heap.size w.heap.size [] p _ _ H0.out HP.out HS.out (by simp) (below_alloc _).size).mono ?_
  rintro e w1 ⟨rfl, hm1, hg1⟩
  have hk1 := kp_step hg1 rfl
  have HM1 : Hid (MapOk w1 w.heap.size w.heap.size (puts [] p).1) := hm1
  have HB1 : Hid (Below w.heap.size w w1) := hk1.2
  have HQ1 : Hid (Ms w1 u q) := HQ.out.kp hk1.1
  obtain ⟨E, hE⟩ : ∃ E, E = (puts [] p).2 := ⟨_, rfl⟩
  have HE : Hid (E = (puts [] p).2) := hE
  rw [← hE]
  clear hE hm1 hg1 hk1 H0 HP HQ
  by_cases hE0 : E = 0
  · subst hE0
    go_wp2_with fail
    refine (putAll_any w.heap.size w.heap.size (puts [] p).1 q _ _ HM1.out HQ1.out HS'.out (len_puts HE.out.symm (by simp)) HB1.out.size).mono ?_
    rintro e w2 ⟨rfl, hm2, hg2⟩
    have HM2 : Hid (MapOk w2 w.heap.size w.heap.size (puts (puts [] p).1 q).1) := hm2
    have HB2 : Hid (Below w.heap.size w w2) := HB1.out.grown hg2 HB1.out.size (fun k hk => by cases hk; exact Nat.le_refl _)
    obtain ⟨F, hF⟩ : ∃ F, F = (puts (puts [] p).1 q).2 := ⟨_, rfl⟩
    have HF : Hid (F = (puts (puts [] p).1 q).2) := hF
    rw [← hF]
    clear hF hm2 hg2
    by_cases hF0 : F = 0
    · subst hF0
      go_wp2_with fail
      have hl := len_puts (p := q) (L := (puts [] p).1) HF.out.symm (len_puts HE.out.symm (by simp))
      refine (row_any w.heap.size w.heap.size (puts (puts [] p).1 q).1 _ HM2.out (by omega) HB2.out.size).mono ?_
      rintro e w3 ⟨v3, rfl, ho3, hb3⟩
      have hs0 : sumE p q = 0 := by unfold sumE; rw [if_pos HE.out.symm]; exact HF.out.symm
      have HS0 : Hid (sumE p q = 0) := hs0
      have HO3 : Hid (OM w3 w.heap.size v3 (sumL p q)) := by
        show OM _ _ _ _
        unfold sumL
        rw [if_pos hs0]
        exact ho3
      have HB3 : Hid (Below w.heap.size w w3) := below_step HB2.out hb3
      clear ho3 hb3 hl hs0
      go_wp2
      go_ret2
      exact ⟨_, ret2i HS0.out.symm, HO3.out, HB3.out⟩
    · have hb0 : (F != 0) = true := by rw [bne_iff_ne]; exact hF0
      have hs0 : sumE p q = F := by unfold sumE; rw [if_pos HE.out.symm]; exact HF.out.symm
      have HS0 : Hid (sumE p q = F) := hs0
      have HSL : Hid (sumL p q = []) := by
        show _ = _
        unfold sumL
        rw [hs0, if_neg hF0]
      clear hs0
      go_wp2
      go_ret2
      exact ⟨_, ret2i HS0.out.symm, by rw [HSL.out]; exact OM.nil _ _, HB2.out⟩
  · have hb0 : (E != 0) = true := by rw [bne_iff_ne]; exact hE0
    have hs0 : sumE p q = E := by unfold sumE; rw [if_neg (by rw [← HE.out]; exact hE0)]; exact HE.out.symm
    have HS0 : Hid (sumE p q = E) := hs0
    have HSL : Hid (sumL p q = []) := by
      show _ = _
      unfold sumL
      rw [hs0, if_neg hE0]
    clear hs0
    go_wp2
    go_ret2
    exact ⟨_, ret2i HS0.out.symm, by rw [HSL.out]; exact OM.nil _ _, HB1.out⟩

end Go.Proofs.Ytfifgmcjilkigaa
