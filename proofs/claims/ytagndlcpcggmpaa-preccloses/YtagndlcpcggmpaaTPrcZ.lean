/- Rows of pairs written over; whatever is of another type stays. -/
import Derived.Test.YtagndlcpcggmpaaTPrcY
namespace Go.Proofs.Ytagndlcpcggmpaa
open Go.RowKit Go.Maps

theorem cellsQ_set : ∀ (ps : List (Int × Int)) (k : Nat) (x : Int × Int), k < ps.length → ((cellsQ ps).set (k * 2) (.int .i64 x.1)).set (k * 2 + 1) (.int .i64 x.2) = cellsQ (ps.set k x)
  | [], k, x, h => by simp at h
  | y :: ps, 0, x, _ => rfl
  | y :: ps, k + 1, x, h => by
    have e : cellsQ (y :: ps) = .int .i64 y.1 :: .int .i64 y.2 :: cellsQ ps := rfl
    have e2 : cellsQ ((y :: ps).set (k + 1) x) = .int .i64 y.1 :: .int .i64 y.2 :: cellsQ (ps.set k x) := rfl
    rw [e, e2, show (k + 1) * 2 = k * 2 + 1 + 1 by omega]
    simp only [List.set_cons_succ]
    rw [cellsQ_set ps k x (by simpa using h)]

theorem OwQ.put {w : World} {base g cap : Nat} {M : List (Int × Int)} (h : OwQ w base (.slice (some ⟨g, 0, none⟩) M.length cap) M) {k : Nat} (hk : k < M.length) {a b : Int} (ha : -9223372036854775808 ≤ a ∧ a ≤ 9223372036854775807) (hb : -9223372036854775808 ≤ b ∧ b ≤ 9223372036854775807) :
    OwQ ((w.setCell ⟨g, k * 2, none⟩ (.int .i64 a)).setCell ⟨g, k * 2 + 1, none⟩ (.int .i64 b)) base (.slice (some ⟨g, 0, none⟩) M.length cap) (M.set k (a, b)) := by
  have h1 := (World.ownsRow.stored h.2 (k * 2) (.int .i64 a)).1
  have h2 := (World.ownsRow.stored h1 (k * 2 + 1) (.int .i64 b)).1
  refine ⟨fun j x hj => ?_, ?_⟩
  · rw [List.getElem?_set] at hj
    split at hj
    · cases hj
      exact ⟨ha, hb⟩
    · exact h.1 j x hj
  · rw [cellsQ_set M k (a, b) hk] at h2
    rw [List.length_set]
    exact h2

theorem OwQ.blk {w : World} {base g cap n : Nat} {M : List (Int × Int)} (h : OwQ w base (.slice (some ⟨g, 0, none⟩) n cap) M) : base ≤ g ∧ ∃ c, w.heap[g]? = some (.cells c 31 (0, 0)) := by
  rcases h.2.2 with ⟨hv, _⟩ | ⟨g', cap', cur, hv, hb, hg, _⟩
  · cases hv
  · cases hv
    exact ⟨hb, cur, hg⟩

theorem Pc.put {w : World} {v : Value} {ps : List (Int × Int)} (h : Pc w v ps) {g k : Nat} {u : Value} (hg : ∃ c, w.heap[g]? = some (.cells c 31 (0, 0))) : Pc (w.setCell ⟨g, k, none⟩ u) v ps := by
  obtain ⟨c, hg⟩ := hg
  obtain ⟨gp, T, hv, h1, h2, h3⟩ := h
  exact ⟨gp, T, hv, h1, (heap_setCell_other _ _ _ _ (type_ne h2 hg (by decide))).trans h2, h3⟩

theorem Rc.put {w : World} {v : Value} {ps : List (Int × Int)} (h : Rc w v ps) {g k : Nat} {u : Value} (hg : ∃ c, w.heap[g]? = some (.cells c 31 (0, 0))) : Rc (w.setCell ⟨g, k, none⟩ u) v ps := by
  obtain ⟨c, hg⟩ := hg
  obtain ⟨base, gp, ro, rc, rb, N, U, hv, h1, h2⟩ := h
  refine ⟨base, gp, ro, rc, rb, N, U, hv, ⟨(heap_setCell_other _ _ _ _ (type_ne h1.ptr hg (by decide))).trans h1.ptr, h1.lo, ⟨h1.own.1, ?_⟩, fun i hi => (heap_setCell_other _ _ _ _ (type_ne (h1.rows i hi) hg (by decide))).trans (h1.rows i hi), h1.low, h1.inj⟩, h2⟩
  rcases h1.own.2 with h0 | ⟨g', cap, cur, hv', hb, hg', r⟩
  · exact .inl h0
  · exact .inr ⟨g', cap, cur, hv', hb, (heap_setCell_other _ _ _ _ (type_ne hg' hg (by decide))).trans hg', r⟩

theorem pair_put {w : World} {g k : Nat} {u : Value} (hg : ∃ c, w.heap[g]? = some (.cells c 31 (0, 0))) : ∃ c, (w.setCell ⟨g, k, none⟩ u).heap[g]? = some (.cells c 31 (0, 0)) := by
  obtain ⟨c, hg⟩ := hg
  exact ⟨_, heap_setCell_same w g k _ _ u hg⟩

/-- The row written over as far as k. -/
def ovr (ps : List (Int × Int)) (k : Nat) : List (Int × Int) := List.replicate k (0, 1) ++ ps.drop k

theorem ovr_len {ps : List (Int × Int)} {k : Nat} (h : k ≤ ps.length) : (ovr ps k).length = ps.length := by simp [ovr]; omega

theorem ovr_at (ps : List (Int × Int)) (k : Nat) : (ovr ps k)[k]? = ps[k]? := by
  unfold ovr
  rw [List.getElem?_append_right (by simp), List.length_replicate, Nat.sub_self, List.getElem?_drop, Nat.add_zero]

theorem ovr_step {ps : List (Int × Int)} {k : Nat} (h : k < ps.length) : (ovr ps k).set k (0, 1) = ovr ps (k + 1) := by
  unfold ovr
  rw [List.drop_eq_getElem_cons h, List.set_append_right _ _ (by simp), List.length_replicate, Nat.sub_self, List.set_cons_zero, List.replicate_succ', List.append_assoc]
  rfl

theorem run_eq_pair (w : World) (a b : Int) : (Op.equalIn 10000 31 (.agg #[.int .i64 a, .int .i64 b]) (.agg #[.int .i64 a, .int .i64 b])).run Try.prog w = .ok true w := by
  obtain ⟨i, hi, _, _, _⟩ := info_parts3 info_int
  have hu : Try.prog.underlying 3 = some (.int .i64) := by kernel_rfl
  have hp : Try.prog.underlying 31 = some (.array 2 3) := by kernel_rfl
  have hc : Try.prog.cellsOf 3 = 1 := by kernel_rfl
  have part0 : ∀ (cs : Array Value) (k : Nat) (u : Value), cs[k]? = some u → (part 3 cs k).run Try.prog w = .ok u w := fun cs k u h => by
    simp [part, isAgg, Sem.run_bind, run_underlying hu w, h]
  rw [run_equalIn_array w 9999 _ _ hp hi, hc]
  have h0 := part0 #[.int .i64 a, .int .i64 b] 0 _ rfl
  have h1 := part0 #[.int .i64 a, .int .i64 b] 1 _ rfl
  have h4 := run_equalIn_int (P := Try.prog) w 9998 3 .i64 .i64 a a hu
  have h5 := run_equalIn_int (P := Try.prog) w 9998 3 .i64 .i64 b b hu
  show (Op.eqItems 9999 3 1 #[.int .i64 a, .int .i64 b] #[.int .i64 a, .int .i64 b] [0, 1]).run Try.prog w = _
  simp [Op.eqItems, Sem.run_bind, h0, h1, h4, h5]

theorem RefO.ok {n : Int} {ps : List (Int × Int)} {w w' : World} {e : Ending} (h : RefO n ps w e w') (h0 : closeE n ps = 0) : Below w.heap.size w w' ∧ ∃ g, e = .returned (.tuple #[.pointer (some ⟨g, 0, none⟩), .int .i64 0]) ∧ Rc w' (.pointer (some ⟨g, 0, none⟩)) ps := by
  rcases h.2 with ⟨h1, _⟩ | ⟨_, h2⟩
  · exact absurd h0 h1
  · exact ⟨h.1, h2⟩

theorem RefO.err {n c : Int} {ps : List (Int × Int)} {w w' : World} {e : Ending} (h : RefO n ps w e w') (h0 : closeE n ps = c) (hc : c ≠ 0) : Below w.heap.size w w' ∧ e = .returned (.tuple #[.pointer none, .int .i64 c]) := by
  subst h0
  rcases h.2 with ⟨_, h1⟩ | ⟨h2, _⟩
  · exact ⟨h.1, h1⟩
  · exact absurd h2 hc

end Go.Proofs.Ytagndlcpcggmpaa
