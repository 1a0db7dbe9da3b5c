/- What Apply answers. -/
import Derived.Test.YtifpanfgojfbkaaDoorTApplyB
namespace Go.Proofs.YtifpanfgojfbkaaDoor
open Go.RowKit Go.Maps

/-- What a variable becomes by binds. -/
def bnd (s : List Bd) (n : Int) : Option (List Int) := s.reverse.lookup n

theorem lookup_mem {α : Type} : ∀ {l : List (Int × α)} {n : Int} {x : α}, l.lookup n = some x → (n, x) ∈ l
  | (k, v) :: l, n, x, h => by
    rw [List.lookup_cons] at h
    cases hk : n == k with
    | true =>
      rw [hk] at h
      cases h
      rw [beq_iff_eq] at hk
      subst hk
      exact .head _
    | false =>
      rw [hk] at h
      exact .tail _ (lookup_mem h)

theorem bind_rise (sig : List Sy) : ∀ (s : List Bd) (p : Option Int), bindGo sig p s = 0 → (∀ y, p = some y → ∀ b ∈ s, y < b.1) ∧ s.Pairwise (fun a b => a.1 < b.1)
  | [], _, _ => ⟨fun _ _ b hb => (by cases hb), List.Pairwise.nil⟩
  | b :: r, p, h => by
    unfold bindGo at h
    split at h
    · split at h
      · cases h
      · rename_i hp
        split at h
        · obtain ⟨h1, h2⟩ := bind_rise sig r (some b.1) h
          have h1' := h1 b.1 rfl
          refine ⟨fun y hy c hc => ?_, List.Pairwise.cons h1' h2⟩
          subst hy
          have hyb : y < b.1 := by simpa using hp
          cases hc with
          | head => exact hyb
          | tail _ hc => have := h1' c hc; omega
        · rename_i he
          exact absurd h he
    · cases h

theorem bind_new {s : List Bd} (h : s.Pairwise (fun a b => a.1 < b.1)) {k : Nat} {x : Int} {t : List Int} (hk : s[k]? = some (x, t)) : (s.take k).reverse.lookup x = none := by
  cases hl : (s.take k).reverse.lookup x with
  | none => rfl
  | some u =>
    have hm := lookup_mem hl
    rw [List.mem_reverse] at hm
    obtain ⟨j, hj, he⟩ := List.getElem_of_mem hm
    rw [List.length_take] at hj
    have hkl : k < s.length := (List.getElem?_eq_some_iff.1 hk).1
    have h2 := List.pairwise_iff_getElem.1 h j k (by omega) hkl (by omega)
    rw [List.getElem_take] at he
    rw [he, (List.getElem?_eq_some_iff.1 hk).2] at h2
    simp at h2

theorem Bs.small {w : World} {v : Value} {s : List Bd} (h : Bs w v s) {b : Bd} (hb : b ∈ s) : b.2.length * 8 ≤ 140737488351232 := by
  obtain ⟨ao, cap, rfl, _, _, hx⟩ := Row.flat h
  obtain ⟨k, hk, rfl⟩ := List.getElem_of_mem hb
  obtain ⟨g, off, x, _, hm, _, _, h3, _⟩ := hx k hk
  rw [List.getElem?_eq_getElem hk] at hm
  cases hm
  exact h3

def applyE (sig : List Sy) (s : List Bd) (t : List Int) : Int := if bindE sig s = 0 then (if termE sig t = 0 then layE (bnd s) t else termE sig t) else bindE sig s
def applyL (sig : List Sy) (s : List Bd) (t : List Int) : List Int := if bindE sig s = 0 then (if termE sig t = 0 then layL (bnd s) t else []) else []

set_option maxRecDepth 100000 in
set_option maxHeartbeats 1600000 in
theorem apply_any (sv bv v : Value) (sig : List Sy) (s : List Bd) (t : List Int) (w : World) (hs : Sg w sv sig) (hB : Bs w bv s) (h : Is w v t) (hT : Tabs w) (hb : t.length * 8 ≤ 140737488351232) :
    Calls Tryd.prog 14 #[sv, bv, v] w fun e w' => ∃ v', e = .returned (.tuple #[v', .int .i64 (applyE sig s t)]) ∧ OwI w' w.heap.size v' (applyL sig s t) ∧ Below w.heap.size w w' := by
  have HS := hid hs
  have HBs := hid hB
  have HI := hid h
  have HT := hid hT
  clear hs hB h hT
  go_enter Tryd.func14, Tryd.ntmps14
  go_wp2_with fail
  refine (substCheck_any sv bv sig s w HS.out HBs.out HT.out).mono ?_
  rintro e w1 ⟨rfl, hb1⟩
  have HB1 := hid hb1
  clear hb1
  by_cases he : bindE sig s = 0
  · rw [he]
    go_wp2_with fail
    refine (check_any sv v sig t w1 (HS.out.kp (Kp.of_below HB1.out)) (HI.out.kp (Kp.of_below HB1.out)) (HT.out.below HB1.out) hb).mono ?_
    rintro e w2 ⟨rfl, hb2⟩
    have HB2 : Hid (Below w.heap.size w w2) := below_step HB1.out hb2
    clear hb2
    by_cases hte : termE sig t = 0
    · rw [hte]
      have HE : Hid (applyE sig s t = layE (bnd s) t) := by show _ = _; unfold applyE; rw [if_pos he, if_pos hte]
      have HL : Hid (applyL sig s t = layL (bnd s) t) := by show _ = _; unfold applyL; rw [if_pos he, if_pos hte]
      have HNew : Hid (∀ k x t, s[k]? = some (x, t) → (s.take k).reverse.lookup x = none) := fun k x t hk => bind_new (bind_rise sig s none (by
        unfold bindE at he
        split at he
        · exact he
        · rename_i h0; exact absurd he h0)).2 hk
      clear he hte
      go_wp2_with fail
      refine (boundTerms_any bv s w2 (HBs.out.kp (Kp.of_below HB2.out)) HNew.out).mono ?_
      rintro e w3 ⟨b, bx, L, rfl, hc, hm, hte, hb3⟩
      have HB3 : Hid (Below w.heap.size w w3) := below_step HB2.out hb3
      have HLay := hid (lay_any (bnd s) 47 (.pointer (some ⟨bx, 0, none⟩)) v t w3 (HI.out.kp (Kp.of_below HB3.out)) hb (fun n u hn => HBs.out.small (List.mem_reverse.1 (lookup_mem hn)))
        (fun n W h0 h1 hW => (bound_closure n b bx L W ((Kp.of_below hW).cell _ _ hc) (hm.later hW) (by omega) h1).mono (fun e w4 he => by
          obtain ⟨rfl, rfl⟩ := he
          obtain ⟨k1, k2⟩ := (hte.kp (Kp.of_below hW)).look n
          refine ⟨(L.lookup n).getD (.slice none 0 0), ?_, fun x hx => ?_, Below.refl _ _⟩
          · cases hbn : bnd s n with
            | none => rw [k2 hbn]; rfl
            | some x => obtain ⟨y, hy, _⟩ := k1 x hbn; rw [hy]; rfl
          · obtain ⟨y, hy, hi⟩ := k1 x hx
            rw [hy]
            exact hi))
        (enters_of Tryd.func47 (by kernel_rfl) rfl))
      clear hc hm hte hb3
      go_wp2_with fail
      refine HLay.out.mono ?_
      rintro e w4 ⟨v', rfl, ho, hb4⟩
      have HO : Hid (OwI w4 w.heap.size v' (layL (bnd s) t)) := ho.mono HB3.out.size
      have HB4 : Hid (Below w.heap.size w w4) := below_step HB3.out hb4
      clear ho hb4 HLay
      go_wp2
      go_ret2
      exact ⟨_, by rw [HE.out]; rfl, by rw [HL.out]; exact HO.out, HB4.out⟩
    · have HE : Hid (applyE sig s t = termE sig t) := by show _ = _; unfold applyE; rw [if_pos he, if_neg hte]
      have HL : Hid (applyL sig s t = []) := by show _ = _; unfold applyL; rw [if_pos he, if_neg hte]
      clear he
      generalize termE sig t = E at hte HE ⊢
      have heb : (E != 0) = true := by simpa using hte
      go_wp2
      go_ret2
      exact ⟨_, by rw [HE.out]; rfl, by rw [HL.out]; exact nilI _ _, HB2.out⟩
  · have HE : Hid (applyE sig s t = bindE sig s) := by show _ = _; unfold applyE; rw [if_neg he]
    have HL : Hid (applyL sig s t = []) := by show _ = _; unfold applyL; rw [if_neg he]
    generalize bindE sig s = E at he HE ⊢
    have heb : (E != 0) = true := by simpa using he
    go_wp2
    go_ret2
    exact ⟨_, by rw [HE.out]; rfl, by rw [HL.out]; exact nilI _ _, HB1.out⟩

end Go.Proofs.YtifpanfgojfbkaaDoor
