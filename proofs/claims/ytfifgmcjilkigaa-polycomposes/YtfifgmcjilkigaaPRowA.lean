/- What a range over the map collects. -/
import Derived.Test.YtfifgmcjilkigaaPSortC
import Derived.Test.YtfifgmcjilkigaaPUnp
import Derived.Test.YtfifgmcjilkigaaPPuts
import Derived.Great.BuildSlice
import Derived.Deep.MidRow
namespace Go.Proofs.Ytfifgmcjilkigaa
open Go.RowKit Go.Maps

theorem info_key : (Try.prog.info? 70).map (fun i => (i.zero, i.size, i.bytes)) = some (some (.agg Try.zeroCells70), 512, 512) := by kernel_rfl
theorem under_keys : Try.prog.underlying 76 = some (.slice 70) := by kernel_rfl

theorem foldl_set : ∀ (l : List Value) (n : Nat) (acc : Array Value), n + l.length ≤ acc.size → ∀ k, ((l.zipIdx n).foldl (fun (cs : Array Value) (p : Value × Nat) => cs.setIfInBounds (0 + p.2) p.1) acc)[k]? = if n ≤ k ∧ k < n + l.length then l[k - n]? else acc[k]?
  | [], n, acc, _, k => by simp; intro h1 h2; omega
  | x :: r, n, acc, h, k => by
    simp only [List.length_cons] at h
    rw [List.zipIdx_cons, List.foldl_cons, foldl_set r (n + 1) _ (by simp; omega) k]
    simp only [List.length_cons, Nat.zero_add]
    by_cases h1 : n + 1 ≤ k ∧ k < n + 1 + r.length
    · rw [if_pos h1, if_pos (by omega), show k - n = (k - (n + 1)) + 1 by omega, List.getElem?_cons_succ]
    · rw [if_neg h1]
      by_cases h2 : k = n
      · subst h2
        rw [if_pos (by omega), Nat.sub_self, List.getElem?_cons_zero, Array.getElem?_setIfInBounds_self_of_lt (by omega)]
      · rw [if_neg (by omega), Array.getElem?_setIfInBounds_ne (fun e => h2 e.symm)]

theorem fill_whole {cs old : Array Value} {sz : Nat} (h : cs.size = sz) (h' : old.size = sz) : Instr.fill (fun i => some (i * sz, sz)) old [(0, .agg cs)] = some cs := by
  have hc : (Value.agg cs).cells = cs := rfl
  unfold Instr.fill
  simp only [hc, Nat.zero_mul]
  rw [if_neg (by simp; omega)]
  unfold Instr.fill
  congr 1
  apply Array.ext_getElem?
  intro k
  rw [← Array.foldl_toList, Array.toList_zipIdx]
  rw [foldl_set cs.toList 0 old (by simp; omega) k]
  simp only [Nat.zero_add, Nat.sub_zero, Array.length_toList, Nat.zero_le, true_and]
  by_cases hk : k < cs.size
  · rw [if_pos hk]; simp
  · rw [if_neg hk, Array.getElem?_eq_none (by omega), Array.getElem?_eq_none (by omega)]

theorem run_buildKey (w : World) {k : List Nat} (h : k.length = 512) : (Instr.buildSlice 76 1 #[(0, .agg (arr k))]).run Try.prog w = .ok (.slice (some ⟨w.heap.size, 0, none⟩) 1 1) (w.alloc (.cells (arr k) 70)) := by
  obtain ⟨i0, hi, hz0, hz1, hz2⟩ := info_parts info_key
  refine run_buildSlice w _ _ 1 _ (arr k) i0 _ under_keys hi hz0 (by rw [hz1]; omega) (by rw [hz1]; omega) ?_
  rw [hz1]
  exact fill_whole (by rw [arr_size, h]) (by simp)

section
variable {P : Program} {w w' : World} {ops : Array Oper} {rest : List Oper} {o : Oper} {a : Act} {Q : Exit → Act → World → Prop}

theorem wpList_buildSlice_run (hg : o.guard = none) (t : TypeId) (len : Nat) (parts : Array (Nat × Operand)) (ho : o.op = .buildSlice t len parts) (vals : Array (Nat × Value)) (hv : (parts.map fun (i, x) => (i, a.eval x)) = vals) (r : Value)
    (hrun : (Instr.buildSlice t len vals).run P w = .ok r w') (h : wpList P ops Q rest (a.put o.dst r) w') : wpList P ops Q (o :: rest) a w := by
  refine wpList_plain hg fun K' hK' => ?_
  unfold Oper.wp execOp
  simp only [ho, Sem.run_bind, hv, hrun, Result.andThen_ok]
  exact hK' _ _ h

end

/-- What has been collected so far, and what is still to come. -/
structure Col (L : Lk) (kss : List (List Nat)) (left : Lit → Bool) : Prop where
  nodup : kss.Nodup
  mem : ∀ ks ∈ kss, hasK L ks = true
  leftIff : ∀ p ∈ L, (left (kl p.1) = true ↔ p.1 ∉ kss)
  only : ∀ l, left l = true → ∃ p ∈ L, l = kl p.1

theorem sameKey_kl {a b : List Nat} (ha : WfK a) (hb : WfK b) : (kl a).sameKey (kl b) = decide (a = b) := by
  by_cases h : a = b
  · subst h
    rw [WideAt.sameKey_self (keyed.key (keyOf_arr ha))]; simp
  · rw [sameKey_ne (fun e => h (kl_inj ha hb e))]; simp [h]

theorem Col.step {L : Lk} {kss : List (List Nat)} {left : Lit → Bool} (h : Col L kss left) (hk : ∀ p ∈ L, WfK p.1) {p : List Nat × List Nat} (hp : p ∈ L) (hl : left (kl p.1) = true) :
    Col L (kss ++ [p.1]) (fun z => left z && !z.sameKey (kl p.1)) := by
  have hn := (h.leftIff p hp).1 hl
  refine ⟨?_, fun ks hks => ?_, fun q hq => ?_, fun l hl' => ?_⟩
  · rw [List.nodup_append]
    refine ⟨h.nodup, by simp, fun a ha b hb => ?_⟩
    simp only [List.mem_singleton] at hb
    subst hb
    exact fun e => hn (e ▸ ha)
  · rcases List.mem_append.1 hks with hks | hks
    · exact h.mem ks hks
    · simp only [List.mem_singleton] at hks
      subst hks
      exact hasK_iff.2 ⟨p.2, hp⟩
  · simp only [Bool.and_eq_true, Bool.not_eq_true', sameKey_kl (hk q hq) (hk p hp), decide_eq_false_iff_not, h.leftIff q hq, List.mem_append, List.mem_singleton, not_or]
  · simp only [Bool.and_eq_true] at hl'
    exact h.only l hl'.1

theorem Col.start {w : World} {base b : Nat} {L : Lk} {D : DataW Value} (_hm : MapOk w base b L) (h3 : ∀ k c, (k, c) ∈ L → ∃ v, (∀ z, D.atKey (kl k) z = .held (.agg #[v])) ∧ Ow w base v c ∧ Maps.has D (kl k) = true) (h4 : ∀ l, Maps.has D l = true → ∃ k c, (k, c) ∈ L ∧ l = kl k) : Col L [] (Maps.has D) := by
  refine ⟨by simp, fun ks h => (by cases h), fun p hp => ?_, fun l hl => ?_⟩
  · obtain ⟨_, _, _, h⟩ := h3 p.1 p.2 hp
    simp [h]
  · obtain ⟨k, c, h, e⟩ := h4 l hl
    exact ⟨(k, c), h, e⟩

/-- All has been collected: sorted, these are the map's keys. -/
theorem Col.sorted {L : Lk} {kss : List (List Nat)} {left : Lit → Bool} (h : Col L kss left) (hr : Rising L) (h0 : ∀ l, left l = false) : kss.mergeSort leK = L.map (·.1) := by
  have hle : ∀ a b, leK a b = true ↔ ¬ ltK b a := by intro a b; simp [leK]
  have hkeys : (L.map (·.1)).Pairwise ltK := List.pairwise_map.2 hr
  have hnd : (L.map (·.1)).Nodup := hkeys.imp (fun {a b} (hab : ltK a b) (e : a = b) => ltK_irrefl b (by rw [e] at hab; exact hab))
  have hperm : kss.Perm (L.map (·.1)) := by
    rw [List.perm_ext_iff_of_nodup h.nodup hnd]
    intro ks
    constructor
    · intro hk
      obtain ⟨c, hc⟩ := hasK_iff.1 (h.mem ks hk)
      exact List.mem_map.2 ⟨(ks, c), hc, rfl⟩
    · intro hk
      obtain ⟨p, hp, rfl⟩ := List.mem_map.1 hk
      by_cases hin : p.1 ∈ kss
      · exact hin
      · have := (h.leftIff p hp).2 hin
        rw [h0] at this
        cases this
  have htr : ∀ a b c, leK a b = true → leK b c = true → leK a c = true := by
    intro a b c h1 h2
    rw [hle] at *
    intro h3
    by_cases e : b = c
    · subst e; exact h1 h3
    · exact h1 (ltK_trans (ltK_or (fun e2 => e e2.symm) h2) h3)
  have htot : ∀ a b, (leK a b || leK b a) = true := by
    intro a b
    rw [Bool.or_eq_true, hle, hle]
    by_cases e : ltK b a
    · right; exact fun h2 => ltK_irrefl _ (ltK_trans e h2)
    · exact .inl e
  have hs1 : (kss.mergeSort leK).Pairwise (fun a b => leK a b = true) := List.pairwise_mergeSort htr htot kss
  have hs2 : (L.map (·.1)).Pairwise (fun a b => leK a b = true) := hkeys.imp (fun {a b} hab => (hle a b).2 (fun h2 => ltK_irrefl _ (ltK_trans hab h2)))
  have hp2 : (kss.mergeSort leK).Perm (L.map (·.1)) := (List.mergeSort_perm kss leK).trans hperm
  refine hp2.eq_of_pairwise (le := fun a b => leK a b = true) (fun a b _ _ h1 h2 => ?_) hs1 hs2
  rw [hle] at h1 h2
  by_cases e : a = b
  · exact e
  · exact absurd (ltK_or e h2) h1

end Go.Proofs.Ytfifgmcjilkigaa
