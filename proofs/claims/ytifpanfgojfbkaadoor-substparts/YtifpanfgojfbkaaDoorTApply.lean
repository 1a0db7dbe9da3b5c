/- What Apply answers. -/
import Derived.Test.YtifpanfgojfbkaaDoorTMap
namespace Go.Proofs.YtifpanfgojfbkaaDoor
open Go.RowKit Go.Maps

theorem under_terms : Tryd.prog.underlying 72 = some (.map 3 30) := by kernel_rfl
theorem zero_ints (w : World) : (zeroValue 30).run Tryd.prog w = .ok (.slice none 0 0) w := by kernel_rfl

/-- The closure of boundTerms: it looks the number up. -/
theorem bound_closure (n : Int) (b bx : Nat) (L : List (Int × Value)) (w : World) (hc : w.cell? ⟨bx, 0, none⟩ = some (.map (some b))) (hm : MapV w b L) (h1 : -9223372036854775808 ≤ n) (h2 : n ≤ 9223372036854775807) :
    Calls Tryd.prog 47 #[.int .i64 n, .pointer (some ⟨bx, 0, none⟩)] w fun e w' => e = .returned (.tuple #[(L.lookup n).getD (.slice none 0 0), .bool (L.lookup n).isSome]) ∧ w' = w := by
  have hl := hm.look under_terms (zero_ints w) h1 h2
  have HL := hid hl
  clear hl hm
  generalize (L.lookup n).getD (.slice none 0 0) = r at HL ⊢
  generalize (L.lookup n).isSome = o at HL ⊢
  go_enter Tryd.func47, Tryd.ntmps47
  go_wp2_with (first
    | (at_lookup; refine wpList_lookup_run rfl _ _ _ _ rfl _ _ _ rfl rfl HL.out ?_))
  go_ret2
  exact ⟨rfl, rfl⟩

/-- The map's values are the terms of binds. -/
def Terms (w : World) : List (Int × Value) → List Bd → Prop
  | [], [] => True
  | (k, v) :: L, (x, t) :: s => k = x ∧ Is w v t ∧ Terms w L s
  | _, _ => False

theorem Terms.kp {w w' : World} (hk : Kp w w') : ∀ {L : List (Int × Value)} {s : List Bd}, Terms w L s → Terms w' L s
  | [], [], _ => trivial
  | (_, _) :: _, (_, _) :: _, ⟨h1, h2, h3⟩ => ⟨h1, h2.kp hk, Terms.kp hk h3⟩
  | [], _ :: _, h => h.elim
  | _ :: _, [], h => h.elim

theorem Terms.len {w : World} : ∀ {L : List (Int × Value)} {s : List Bd}, Terms w L s → L.length = s.length
  | [], [], _ => rfl
  | (_, _) :: _, (_, _) :: _, ⟨_, _, h3⟩ => congrArg (· + 1) (Terms.len h3)
  | [], _ :: _, h => h.elim
  | _ :: _, [], h => h.elim

theorem Terms.look {w : World} (n : Int) : ∀ {L : List (Int × Value)} {s : List Bd}, Terms w L s → (∀ t, s.lookup n = some t → ∃ v, L.lookup n = some v ∧ Is w v t) ∧ (s.lookup n = none → L.lookup n = none)
  | [], [], _ => ⟨fun t h => (by cases h), fun _ => rfl⟩
  | (k, v) :: L, (x, t) :: s, ⟨h1, h2, h3⟩ => by
    subst h1
    rw [List.lookup_cons, List.lookup_cons]
    cases hk : n == k with
    | true => exact ⟨fun u hu => ⟨v, rfl, by cases hu; exact h2⟩, fun h => by cases h⟩
    | false => exact Terms.look n h3
  | [], _ :: _, h => h.elim
  | _ :: _, [], h => h.elim

set_option maxRecDepth 100000 in
set_option maxHeartbeats 1600000 in
theorem boundTerms_any (bv : Value) (s : List Bd) (w : World) (h : Bs w bv s) (hn : ∀ k x t, s[k]? = some (x, t) → (s.take k).reverse.lookup x = none) :
    Calls Tryd.prog 32 #[bv] w fun e w' => ∃ b bx L, e = .returned (.func (.func 47) #[] #[.pointer (some ⟨bx, 0, none⟩)]) ∧ w'.cell? ⟨bx, 0, none⟩ = some (.map (some b)) ∧ MapV w' b L ∧ Terms w' L s.reverse ∧ Below w.heap.size w w' := by
  obtain ⟨so, sc, rfl, hso, hsc, _⟩ := Row.flat h
  unfold maxLen at hsc
  have HI : Hid (Bs w (.slice so s.length sc) s) := h
  have HN : Hid (∀ k x t, s[k]? = some (x, t) → (s.take k).reverse.lookup x = none) := hn
  clear h hn
  have hmm : ∀ (n : Int) (w : World), (Instr.makeMap 72 (some (.int .i64 n))).run Tryd.prog w = .ok (.map (some w.heap.size)) (w.alloc (.map #[] 0)) := by
    intro n w
    simp [Instr.makeMap, run_underlying under_terms, asInt, asIntOf, Result.andThen]
  go_enter Tryd.func32, Tryd.ntmps32
  go_wp2
  go_loopw [11] (fun i wr => ∃ (k : Nat) (L : List (Int × Value)), k ≤ s.length ∧ i = .int .i64 k ∧ Terms wr L (s.take k).reverse ∧ MapV wr w.heap.size L ∧ wr.cell? ⟨w.heap.size + 1, 0, none⟩ = some (.map (some w.heap.size)) ∧ Below w.heap.size w wr) (fun i _ => s.length - (intOf i).toNat)
  case atStart => exact ⟨0, [], Nat.zero_le _, rfl, trivial, (MapV.made w).later (below_alloc _), by simp, below_step (below_alloc _) (below_alloc _)⟩
  case round =>
    obtain ⟨k, L, hk, rfl, hte, hmv, hbx, hbl⟩ := hrel
    have HTe : Hid (Terms wr L (s.take k).reverse) := hte
    have HMv : Hid (MapV wr w.heap.size L) := hmv
    have HB : Hid (Below w.heap.size w wr) := hbl
    clear hte hmv hmm
    by_cases hlt : k < s.length
    · obtain ⟨g, off, x, ba, t, bc, rfl, hm, hc0, hc1, hit, hx1, hx2, hx3⟩ := (HI.out.kp (Kp.of_below hbl)).at hlt
      have hlen := HTe.out.len
      rw [List.length_reverse, List.length_take, Nat.min_eq_left hk] at hlen
      have hbw := below_alloc (w := wr) (.cells #[.int .i64 x, .slice ba t.length bc] 43)
      obtain ⟨w4, hr4, hm4, hg4⟩ := (HMv.out.later hbw).store under_terms hx1 hx2 ((HTe.out.look x).2 (HN.out k x t hm)) (by unfold maxLen; omega) (.slice ba t.length bc)
      obtain ⟨es, ck, hes⟩ := (HMv.out.later hbw).isMap
      have hkp : Kp wr w4 := (Kp.of_below hbw).trans (Kp.of_map hg4 hes)
      have HT4 : Hid (Terms w4 ((x, .slice ba t.length bc) :: L) (s.take (k + 1)).reverse) := by
        show Terms _ _ _
        rw [List.take_add_one, hm]
        simp only [Option.toList, List.reverse_append, List.reverse_cons, List.reverse_nil, List.nil_append, List.cons_append]
        exact ⟨rfl, hit.kp hkp, HTe.out.kp hkp⟩
      have HR4 : Hid ((Instr.mapUpdate 72 (.map (some w.heap.size)) (.int .i64 x) (.slice ba t.length bc)).run Tryd.prog (wr.alloc (.cells #[.int .i64 x, .slice ba t.length bc] 43)) = .ok () w4) := hr4
      have HM4 : Hid (MapV w4 w.heap.size ((x, .slice ba t.length bc) :: L)) := hm4
      have HB4 : Hid (Below w.heap.size w w4) := grown_below (below_step HB.out hbw) hg4 (Nat.le_refl _)
      have HX4 : Hid (w4.cell? ⟨w.heap.size + 1, 0, none⟩ = some (.map (some w.heap.size))) := hkp.cell _ _ hbx
      have hblk : w.heap.size + 1 < wr.heap.size := World.block_lt_of_cell? _ _ hbx
      clear hr4 hm4 hg4 hes hkp hbw hit hm hbl
      go_wp2_with (first
        | (at_mapUpdate; refine wpList_mapUpdate_run rfl _ _ _ _ rfl _ _ _ rfl rfl rfl HR4.out ?_))
      go_roundw
      case rel => exact ⟨k + 1, _, by omega, by go_num, HT4.out, HM4.out, HX4.out, HB4.out⟩
      case measure => simp [intOf]; omega
    · have hke : k = s.length := by omega
      subst hke
      rw [List.take_length] at HTe
      have HBx := hid hbx
      go_wp2
      go_ret
      exact ⟨_, _, _, rfl, HBx.out, HMv.out, HTe.out, HB.out⟩

end Go.Proofs.YtifpanfgojfbkaaDoor
