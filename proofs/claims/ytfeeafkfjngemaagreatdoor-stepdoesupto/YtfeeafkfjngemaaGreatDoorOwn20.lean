/- Texts of the proof, one behind the other. -/
import Derived.Test.YtfeeafkfjngemaaGreatDoorOwn19
import Derived.Test.YtfeeafkfjngemaaGreatDoorOwn12
/- The document's sorted of layer 5 walked. -/
namespace Go.Proofs.YtfeeafkfjngemaaGreatDoor
open Go.RowKit Go.Maps Go.BigFrame

def lenB : Value → Nat
  | .slice _ n _ => n
  | _ => 0

/-- Binds of one's own, their rows older ones of one's own. -/
def OBX (b1 b2 : Nat) (w : World) (v : Value) (s : List Bd) : Prop :=
  ∃ us : List Value, us.length = s.length ∧ (∀ (i : Nat) (u : Value) (b : Bd), us[i]? = some u → s[i]? = some b → EBo b1 w u b) ∧ w.ownsRow b2 115 2 v s.length (flatB s us)

theorem OBX.obw {b1 b2 b : Nat} {w : World} {v : Value} {s : List Bd} (h : OBX b1 b2 w v s) (h1 : b ≤ b1) (h2 : b ≤ b2) : OBW b w v s := by
  obtain ⟨us, hl, hc, ho⟩ := h
  refine ⟨us, hl, fun i u b h1' h2' => ⟨(hc i u b h1' h2').1.mono h1, (hc i u b h1' h2').2⟩, ho.1, ?_⟩
  rcases ho.2 with h | ⟨g, cap, cur, rfl, hg, r⟩
  · exact .inl h
  · exact .inr ⟨g, cap, cur, rfl, by omega, r⟩

theorem OBX.later {b1 b2 : Nat} {w w' : World} {v : Value} {s : List Bd} (h : OBX b1 b2 w v s) (hb : Below w.heap.size w w') : OBX b1 b2 w' v s := by
  obtain ⟨us, hl, hc, ho⟩ := h
  exact ⟨us, hl, fun i u b h1 h2 => ⟨(hc i u b h1 h2).1.later hb, (hc i u b h1 h2).2⟩, ownsRow_later ho hb⟩

theorem OBX.nil (b1 b2 : Nat) (w : World) : OBX b1 b2 w (.slice none 0 0) [] := ⟨[], rfl, fun i c m h => (by simp at h), World.ownsRow_nil _ _ _ _⟩

theorem OBX.bs {b1 b2 : Nat} {w : World} {v : Value} {s : List Bd} (h : OBX b1 b2 w v s) : Bs w v s := (h.obw (Nat.zero_le _) (Nat.zero_le _)).bs

theorem OBW.row {base : Nat} {w : World} {v : Value} {s : List Bd} (h : OBW base w v s) {k : Nat} {x : Int} {t : List Int} (hk : s[k]? = some (x, t)) :
    ∃ g cap u, v = .slice (some ⟨g, 0, none⟩) s.length cap ∧ w.cell? ⟨g, k * 2, none⟩ = some (.int .i64 x) ∧ w.cell? ⟨g, k * 2 + 1, none⟩ = some u ∧ EBo base w u (x, t) := by
  obtain ⟨us, hl, hc, ho⟩ := h
  have hlt : k < s.length := (List.getElem?_eq_some_iff.1 hk).1
  have ho2 := ho
  rcases ho2.2 with ⟨rfl, hn⟩ | ⟨g, cap, cur, rfl, hbg, hg, hcap, hm, hs, ht⟩
  · omega
  · have hck : us[k]? = some us[k] := List.getElem?_eq_getElem (by omega)
    obtain ⟨h1, h2⟩ := flatB_get hk hck
    refine ⟨g, cap, us[k], rfl, ?_, ?_, hc k _ _ hck hk⟩
    · rw [World.ownsRow.cellAt ho2 (k * 2) (by omega)]
      exact h1
    · rw [World.ownsRow.cellAt ho2 (k * 2 + 1) (by omega)]
      exact h2

theorem OBX.shape {b1 b2 : Nat} {w : World} {v : Value} {s : List Bd} (h : OBX b1 b2 w v s) : ∃ ao cap, v = .slice ao s.length cap ∧ s.length ≤ cap ∧ cap ≤ maxLen := by
  obtain ⟨us, hl, hc, ho⟩ := h
  rcases ho.2 with ⟨rfl, hn⟩ | ⟨g, cap, cur, rfl, hb, hg, hc, hm, hs, ht⟩
  · exact ⟨none, 0, by rw [hn], by omega, by simp [maxLen]⟩
  · exact ⟨_, cap, rfl, hc, hm⟩

/-- One bind joined. -/
theorem OBX.snoc (ty : TypeId) {b1 b2 : Nat} {w0 w : World} {v u : Value} {s : List Bd} {x : Int} {t : List Int} (h : OBX b1 b2 w v s) (h0 : Below w0.heap.size w0 w) (hb : b2 ≤ w.heap.size) (hb0 : w0.heap.size ≤ b2) (hE : EBo b1 w u (x, t)) (hlen : (s.length + 1) * 32 ≤ 140737488355328) :
    ∃ v' w', (Builtin.append_ #[41, 41] ty #[v, .slice (some ⟨w.heap.size, 0, none⟩) 1 1]).run Tryz.prog (w.alloc (.cells #[.int .i64 x, u] 115)) = .ok v' w' ∧ OBX b1 b2 w' v' (s ++ [(x, t)]) ∧ Below w0.heap.size w0 w' := by
  obtain ⟨i1, hi1, hy0, hy1, hy2⟩ := info_parts info_bind
  have ha := below_alloc (w := w) (.cells #[.int .i64 x, u] 115)
  have h' := h.later ha
  obtain ⟨us, hl, hc, ho0⟩ := h
  obtain ⟨vs, hl', hc', ho⟩ := h'
  have hone : u.oneCell' = true := by obtain ⟨_, _, rfl, _⟩ := hE.1.shape; rfl
  obtain ⟨v', w', hrun, h2, h3, _, _⟩ := run_append_own_at (P := Tryz.prog) (w.alloc (.cells #[.int .i64 x, u] 115)) b2 41 ty 115 i1 _ 2 32 under_binds hi1 hy0 hy1 hy2 rfl (by decide) v s.length (flatB s vs) ho ⟨w.heap.size, 0, none⟩ 1 1 [.int .i64 x, u] rfl
    (fun j c hj => by
      rw [Addr.add_lit, Nat.zero_add, cell_of_row _ _ _ _ _ _ (heap_alloc_new _ _)]
      simpa using hj)
    (fun c hc => by
      simp only [List.mem_cons, List.not_mem_nil, or_false] at hc
      rcases hc with rfl | rfl
      · rfl
      · exact hone) (by unfold maxLen; omega) (by omega) (Nat.le_trans hb ha.size)
  have hk : ∀ {y : Value} {b : Bd}, EBo b1 (w.alloc (.cells #[.int .i64 x, u] 115)) y b → EBo b1 w' y b := fun {y b} hy => ⟨hy.1.kept h3 (ownsRow_apart hy.1.2 ho (by decide)), hy.2⟩
  refine ⟨v', w', hrun, ⟨vs ++ [u], by rw [List.length_append, List.length_append, hl']; rfl, fun i y b h1 h4 => ?_, ?_⟩, ?_⟩
  · by_cases hi : i < vs.length
    · rw [List.getElem?_append_left hi] at h1
      rw [List.getElem?_append_left (by omega)] at h4
      exact hk (hc' i y b h1 h4)
    · rw [List.getElem?_append_right (by omega)] at h1
      rw [List.getElem?_append_right (by omega), ← hl'] at h4
      have hi : i - vs.length = 0 := by
        have := (List.getElem?_eq_some_iff.1 h1).1
        simp at this
        omega
      rw [hi] at h1 h4
      simp at h1 h4
      subst h1
      subst h4
      exact hk ⟨hE.1.later ha, hE.2⟩
  · rw [List.length_append, flatB_append hl']
    exact h2
  · have h9 := below_step h0 ha
    exact h9.grown h3 h9.size (fun j hj => Nat.le_trans hb0 (own_blk ho hj))

/-- Binds by rising variables. -/
def sortB (s : List Bd) : List Bd := (sortI (s.map Prod.fst)).map fun n => (n, (s.lookup n).getD [])

/-- Whether a variable comes behind the last one told. -/
def Later (S : List Int) (k : Nat) (x : Int) : Prop := ∀ j y, j + 1 = k → S[j]? = some y → y < x

theorem sortB_get {s : List Bd} {k : Nat} {b : Bd} (h : (sortB s)[k]? = some b) : (sortI (s.map Prod.fst))[k]? = some b.1 := by
  unfold sortB at h
  rw [List.getElem?_map] at h
  cases hs : (sortI (s.map Prod.fst))[k]? with
  | none => rw [hs] at h; simp at h
  | some n =>
    rw [hs] at h
    simp at h
    rw [← h]

theorem sortB_next {s : List Bd} (hn : (s.map Prod.fst).Nodup) {k m : Nat} {b : Bd} (hk : k < s.length) (hm : s[m]? = some b) (hl : Later (sortI (s.map Prod.fst)) k b.1)
    (hle : ∀ (i : Nat) (b' : Bd), i < s.length → s[i]? = some b' → Later (sortI (s.map Prod.fst)) k b'.1 → b.1 ≤ b'.1) : (sortB s)[k]? = some b := by
  have hr := sortI_rise hn
  have hlen := sortI_len (s.map Prod.fst)
  rw [List.length_map] at hlen
  obtain ⟨x, hx⟩ : ∃ x, (sortI (s.map Prod.fst))[k]? = some x := ⟨_, List.getElem?_eq_getElem (by omega)⟩
  obtain ⟨h1, h2⟩ := sel_next hr hx
  have hxm := List.mem_of_getElem? hx
  rw [sortI_mem] at hxm
  obtain ⟨b', hb', he⟩ := List.mem_map.1 hxm
  obtain ⟨i, hi⟩ := List.getElem?_of_mem hb'
  have h3 : b.1 ≤ x := by rw [← he]; exact hle i b' (List.getElem?_eq_some_iff.1 hi).1 hi (by rw [he]; exact h1)
  have h4 : x ≤ b.1 := h2 b.1 (by rw [sortI_mem]; exact List.mem_map.2 ⟨b, List.mem_of_getElem? hm, rfl⟩) hl
  have h5 : x = b.1 := by omega
  unfold sortB
  rw [List.getElem?_map, hx, h5]
  simp only [Option.map_some, Option.some.injEq]
  rw [look_has hn (List.mem_of_getElem? hm)]
  rfl

theorem sortB_some {s : List Bd} (hn : (s.map Prod.fst).Nodup) {k : Nat} (hk : k < s.length) : ∃ (i : Nat) (b : Bd), s[i]? = some b ∧ Later (sortI (s.map Prod.fst)) k b.1 := by
  have hr := sortI_rise hn
  have hlen := sortI_len (s.map Prod.fst)
  rw [List.length_map] at hlen
  obtain ⟨x, hx⟩ : ∃ x, (sortI (s.map Prod.fst))[k]? = some x := ⟨_, List.getElem?_eq_getElem (by omega)⟩
  obtain ⟨h1, _⟩ := sel_next hr hx
  have hxm := List.mem_of_getElem? hx
  rw [sortI_mem] at hxm
  obtain ⟨b, hb, he⟩ := List.mem_map.1 hxm
  obtain ⟨i, hi⟩ := List.getElem?_of_mem hb
  exact ⟨i, b, hi, by rw [he]; exact h1⟩

theorem least_first {s : List Bd} {L : Int → Prop} {j : Nat} {x : Int} {t : List Int} (hX : s[j]? = some (x, t)) (h : ∀ (i : Nat) (b : Bd), i < j → s[i]? = some b → ¬ L b.1) : ∀ (i : Nat) (b : Bd), i < j + 1 → s[i]? = some b → L b.1 → (x, t).1 ≤ b.1 := fun i b hi hb hl => by
  rcases Nat.lt_succ_iff_lt_or_eq.1 hi with h9 | h9
  · exact absurd hl (h i b h9 hb)
  · subst h9
    rw [hX] at hb
    cases hb
    exact Int.le_refl _

theorem least_less {s : List Bd} {L : Int → Prop} {j : Nat} {x z : Int} {t tz : List Int} (hX : s[j]? = some (x, t)) (h : ∀ (i : Nat) (b : Bd), i < j → s[i]? = some b → L b.1 → (z, tz).1 ≤ b.1) (hxz : x < z) : ∀ (i : Nat) (b : Bd), i < j + 1 → s[i]? = some b → L b.1 → (x, t).1 ≤ b.1 := fun i b hi hb hl => by
  rcases Nat.lt_succ_iff_lt_or_eq.1 hi with h9 | h9
  · have := h i b h9 hb hl
    simp only at this ⊢
    omega
  · subst h9
    rw [hX] at hb
    cases hb
    exact Int.le_refl _

theorem least_keep {s : List Bd} {L : Int → Prop} {j : Nat} {x z : Int} {t tz : List Int} (hX : s[j]? = some (x, t)) (h : ∀ (i : Nat) (b : Bd), i < j → s[i]? = some b → L b.1 → (z, tz).1 ≤ b.1) (hxz : ¬ x < z) : ∀ (i : Nat) (b : Bd), i < j + 1 → s[i]? = some b → L b.1 → (z, tz).1 ≤ b.1 := fun i b hi hb hl => by
  rcases Nat.lt_succ_iff_lt_or_eq.1 hi with h9 | h9
  · exact h i b h9 hb hl
  · subst h9
    rw [hX] at hb
    cases hb
    simp only
    omega

set_option maxRecDepth 100000 in
set_option maxHeartbeats 3200000 in
theorem refSorted_any (v : Value) (s : List Bd) (base : Nat) (w : World) (h : OBW base w v s) (_hb : base ≤ w.heap.size) (hn : (s.map Prod.fst).Nodup) (hl : s.length * 32 ≤ 140737488351232) :
    Calls Tryz.prog 81 #[v] w fun e w' => ∃ v', e = .returned v' ∧ OBX base w.heap.size w' v' (sortB s) ∧ Below w.heap.size w w' := by
  obtain ⟨ao, cap, rfl, hao, hca, _⟩ := Row.flat h.bs
  unfold maxLen at hca
  have HW := hid h
  have HI := hid h.bs
  have HN := hid hn
  have hRl : (sortB s).length = s.length := by unfold sortB; rw [List.length_map, sortI_len, List.length_map]
  obtain ⟨R, hR⟩ : ∃ R, R = sortB s := ⟨_, rfl⟩
  rw [← hR] at hRl ⊢
  have HR := hid hR
  have HRl := hid hRl
  clear h hn hR hRl
  go_enter Tryz.func81, Tryz.ntmps81
  go_wp2
  go_loopw [3] (fun ov wr => ∃ k : Nat, k ≤ s.length ∧ OBX base w.heap.size wr ov (R.take k) ∧ Below w.heap.size w wr) (fun ov _ => s.length - lenB ov)
  case atStart => exact ⟨0, Nat.zero_le _, OBX.nil _ _ _, Below.refl _ _⟩
  case round =>
    obtain ⟨k, hk, hox, hbl⟩ := hrel
    have HBr := hid hbl
    have HO := hid hox
    obtain ⟨oo1, oc, hov, hoc1, hoc2⟩ := hox.shape
    have hkl : (R.take k).length = k := by rw [List.length_take, HRl.out]; omega
    rw [hkl] at hov hoc1
    subst hov
    unfold maxLen at hoc2
    clear hox hbl hkl
    by_cases hlt : k < s.length
    · have hdk : decide ((k : Int) < (s.length : Int)) = true := by simpa using hlt
      go_wp2
      go_loopw [4, 5] (fun lv jv ws => ∃ j : Nat, j ≤ s.length ∧ jv = .int .i64 j ∧ ((lv = .int .i64 (-1) ∧ ∀ (i : Nat) (b : Bd), i < j → s[i]? = some b → ¬ Later (sortI (s.map Prod.fst)) k b.1) ∨ ∃ (m : Nat) (b : Bd), lv = .int .i64 m ∧ s[m]? = some b ∧ Later (sortI (s.map Prod.fst)) k b.1 ∧ ∀ (i : Nat) (b' : Bd), i < j → s[i]? = some b' → Later (sortI (s.map Prod.fst)) k b'.1 → b.1 ≤ b'.1) ∧ Below wr.heap.size wr ws) (fun _ jv _ => s.length - (intOf jv).toNat)
      case atStart => exact ⟨0, Nat.zero_le _, rfl, .inl ⟨rfl, fun i b hi => absurd hi (Nat.not_lt_zero _)⟩, Below.refl _ _⟩
      case round =>
        obtain ⟨j, hj, rfl, hle, hbl⟩ := hrel
        have HLe := hid hle
        have HBs := hid hbl
        clear hle
        by_cases hjl : j < s.length
        · obtain ⟨g, off, x, xa, t, xc, rfl, hm, hc0, hc1, hit, hx1, hx2, hx3⟩ := ((HI.out.kp (Kp.of_below HBr.out)).kp (Kp.of_below hbl)).at hjl
          have HX := hid hm
          clear hm hc1 hit hbl
          by_cases hk0 : k = 0
          · have HLx : Hid (Later (sortI (s.map Prod.fst)) k x) := fun i y hi => by omega
            have hkb : ((k : Int) == 0) = true := by simpa using hk0
            clear hk0
            go_wp2_with fail
            refine region_below (by kernel_rfl) (by kernel_rfl) ?_
            (go_big_quiet_want; go_big_quiet_op; go_big_quiet_on)
            go_big_quiet_want
            refine ⟨.int .i64 (k : Int), fun w' hw' => ?_, ?_⟩
            · unfold Oper.quietAt; go_simp
            simp only [Act.put, List.setIfInBounds_toArray, List.set_cons_zero, List.set_cons_succ]
            go_big_quiet_on
            go_big_quiet_want
            refine ⟨.bool true, fun w' hw' => ?_, ?_⟩
            · unfold Oper.quietAt; go_simp
            simp only [Act.put, List.setIfInBounds_toArray, List.set_cons_zero, List.set_cons_succ]
            go_big_quiet_on
            (go_big_quiet_want; go_big_quiet_op; go_big_quiet_on)
            go_big_quiet_skip
            go_big_quiet_skip
            go_big_quiet_skip
            go_big_quiet_skip
            go_big_quiet_skip
            go_big_quiet_skip
            go_big_quiet_skip
            go_big_quiet_skip
            go_big_quiet_skip
            go_big_quiet_skip
            go_big_quiet_skip
            go_big_quiet_skip
            go_big_quiet_skip
            go_big_quiet_want
            refine ⟨.bool true, fun w' hw' => ?_, ?_⟩
            · unfold Oper.quietAt; go_simp
            simp only [Act.put, List.setIfInBounds_toArray, List.set_cons_zero, List.set_cons_succ]
            go_big_quiet_on
            (go_big_quiet_want; go_big_quiet_op; go_big_quiet_on)
            refine wpQuiet_nil ?_
            intro w2 hb2
            have HB2 := hid (below_step HBs.out hb2)
            rcases HLe.out with ⟨hlv, hfi⟩ | ⟨m, b, hlv, hmb, hbl9, hle⟩
            · subst hlv
              have HFi := hid hfi
              clear hb2 hc0 hfi
              go_wp2_with fail
              refine region_below (by kernel_rfl) (by kernel_rfl) ?_
              (go_big_quiet_want; go_big_quiet_op; go_big_quiet_on)
              (go_big_quiet_want; go_big_quiet_op; go_big_quiet_on)
              (go_big_quiet_want; go_big_quiet_op; go_big_quiet_on)
              go_big_quiet_want
              refine ⟨.bool true, fun w' hw' => ?_, ?_⟩
              · unfold Oper.quietAt; go_simp
              simp only [Act.put, List.setIfInBounds_toArray, List.set_cons_zero, List.set_cons_succ]
              go_big_quiet_on
              (go_big_quiet_want; go_big_quiet_op; go_big_quiet_on)
              go_big_quiet_skip
              go_big_quiet_skip
              go_big_quiet_skip
              go_big_quiet_skip
              go_big_quiet_skip
              go_big_quiet_skip
              go_big_quiet_skip
              go_big_quiet_skip
              go_big_quiet_skip
              go_big_quiet_skip
              go_big_quiet_skip
              go_big_quiet_want
              refine ⟨.bool true, fun w' hw' => ?_, ?_⟩
              · unfold Oper.quietAt; go_simp
              simp only [Act.put, List.setIfInBounds_toArray, List.set_cons_zero, List.set_cons_succ]
              go_big_quiet_on
              go_big_quiet_want
              refine ⟨.bool true, fun w' hw' => ?_, ?_⟩
              · unfold Oper.quietAt; go_simp
              simp only [Act.put, List.setIfInBounds_toArray, List.set_cons_zero, List.set_cons_succ]
              go_big_quiet_on
              refine wpQuiet_nil ?_
              intro w3 hb3
              have HB3 := hid (below_step HB2.out hb3)
              clear hb3
              go_wp2
              go_roundw
              case rel => exact ⟨j + 1, by omega, by go_num, .inr ⟨j, (x, t), rfl, HX.out, HLx.out, least_first HX.out HFi.out⟩, HB3.out⟩
              case measure => simp [intOf]; omega
            · obtain ⟨z, tz⟩ := b
              subst hlv
              have HMb := hid hmb
              have HBz := hid hbl9
              have HLz := hid hle
              have hml := (List.getElem?_eq_some_iff.1 hmb).1
              obtain ⟨gz, oz, z2, za, tz2, zc, hgz, hmz, hcz, _, _, _, _, _⟩ := ((HI.out.kp (Kp.of_below HBr.out)).kp (Kp.of_below HBs.out)).at hml
              rw [hmb] at hmz
              cases hmz
              simp only [Option.some.injEq, Addr.mk.injEq, and_true] at hgz
              obtain ⟨rfl, rfl⟩ := hgz
              have he0 := (Kp.of_below hb2).cell _ _ hc0
              have he1 := (Kp.of_below hb2).cell _ _ hcz
              clear hb2 hc0 hcz hmb hbl9 hle
              have hm0 : decide ((m : Int) < 0) = false := by simp
              by_cases hxz : x < z
              · have hdz : decide (x < z) = true := by simpa using hxz
                go_wp2_with fail
                refine region_below (by kernel_rfl) (by kernel_rfl) ?_
                (go_big_quiet_want; go_big_quiet_op; go_big_quiet_on)
                (go_big_quiet_want; go_big_quiet_op; go_big_quiet_on)
                (go_big_quiet_want; go_big_quiet_op; go_big_quiet_on)
                go_big_quiet_want
                refine ⟨.bool false, fun w' hw' => ?_, ?_⟩
                · unfold Oper.quietAt; go_simp
                simp only [Act.put, List.setIfInBounds_toArray, List.set_cons_zero, List.set_cons_succ]
                go_big_quiet_on
                (go_big_quiet_want; go_big_quiet_op; go_big_quiet_on)
                (go_big_quiet_want; go_big_quiet_op; go_big_quiet_on)
                (go_big_quiet_want; go_big_quiet_op; go_big_quiet_on)
                go_big_quiet_want
                refine ⟨.pointer (some ⟨g, off + j * 2, none⟩), fun w' hw' => ?_, ?_⟩
                · unfold Oper.quietAt; go_simp
                simp only [Act.put, List.setIfInBounds_toArray, List.set_cons_zero, List.set_cons_succ]
                go_big_quiet_on
                go_big_quiet_want
                refine ⟨.pointer (some ⟨g, off + j * 2, none⟩), fun w' hw' => ?_, ?_⟩
                · unfold Oper.quietAt; go_simp
                simp only [Act.put, List.setIfInBounds_toArray, List.set_cons_zero, List.set_cons_succ]
                go_big_quiet_on
                go_big_quiet_want
                refine ⟨.int .i64 x, fun w' hw' => ?_, ?_⟩
                · have hh0 := (Kp.of_below hw').cell _ _ he0; unfold Oper.quietAt; go_simp
                simp only [Act.put, List.setIfInBounds_toArray, List.set_cons_zero, List.set_cons_succ]
                go_big_quiet_on
                (go_big_quiet_want; go_big_quiet_op; go_big_quiet_on)
                (go_big_quiet_want; go_big_quiet_op; go_big_quiet_on)
                go_big_quiet_want
                refine ⟨.pointer (some ⟨g, off + m * 2, none⟩), fun w' hw' => ?_, ?_⟩
                · unfold Oper.quietAt; go_simp
                simp only [Act.put, List.setIfInBounds_toArray, List.set_cons_zero, List.set_cons_succ]
                go_big_quiet_on
                go_big_quiet_want
                refine ⟨.pointer (some ⟨g, off + m * 2, none⟩), fun w' hw' => ?_, ?_⟩
                · unfold Oper.quietAt; go_simp
                simp only [Act.put, List.setIfInBounds_toArray, List.set_cons_zero, List.set_cons_succ]
                go_big_quiet_on
                go_big_quiet_want
                refine ⟨.int .i64 z, fun w' hw' => ?_, ?_⟩
                · have hh0 := (Kp.of_below hw').cell _ _ he1; unfold Oper.quietAt; go_simp
                simp only [Act.put, List.setIfInBounds_toArray, List.set_cons_zero, List.set_cons_succ]
                go_big_quiet_on
                go_big_quiet_want
                refine ⟨.bool true, fun w' hw' => ?_, ?_⟩
                · unfold Oper.quietAt; go_simp
                simp only [Act.put, List.setIfInBounds_toArray, List.set_cons_zero, List.set_cons_succ]
                go_big_quiet_on
                go_big_quiet_want
                refine ⟨.bool true, fun w' hw' => ?_, ?_⟩
                · unfold Oper.quietAt; go_simp
                simp only [Act.put, List.setIfInBounds_toArray, List.set_cons_zero, List.set_cons_succ]
                go_big_quiet_on
                go_big_quiet_want
                refine ⟨.bool true, fun w' hw' => ?_, ?_⟩
                · unfold Oper.quietAt; go_simp
                simp only [Act.put, List.setIfInBounds_toArray, List.set_cons_zero, List.set_cons_succ]
                go_big_quiet_on
                refine wpQuiet_nil ?_
                intro w3 hb3
                have HB3 := hid (below_step HB2.out hb3)
                clear hb3
                go_wp2
                go_roundw
                case rel => exact ⟨j + 1, by omega, by go_num, .inr ⟨j, (x, t), rfl, HX.out, HLx.out, least_less (tz := tz) HX.out HLz.out hxz⟩, HB3.out⟩
                case measure => simp [intOf]; omega
              · have hdz : decide (x < z) = false := by simpa using hxz
                go_wp2_with fail
                refine region_below (by kernel_rfl) (by kernel_rfl) ?_
                (go_big_quiet_want; go_big_quiet_op; go_big_quiet_on)
                (go_big_quiet_want; go_big_quiet_op; go_big_quiet_on)
                (go_big_quiet_want; go_big_quiet_op; go_big_quiet_on)
                go_big_quiet_want
                refine ⟨.bool false, fun w' hw' => ?_, ?_⟩
                · unfold Oper.quietAt; go_simp
                simp only [Act.put, List.setIfInBounds_toArray, List.set_cons_zero, List.set_cons_succ]
                go_big_quiet_on
                (go_big_quiet_want; go_big_quiet_op; go_big_quiet_on)
                (go_big_quiet_want; go_big_quiet_op; go_big_quiet_on)
                (go_big_quiet_want; go_big_quiet_op; go_big_quiet_on)
                go_big_quiet_want
                refine ⟨.pointer (some ⟨g, off + j * 2, none⟩), fun w' hw' => ?_, ?_⟩
                · unfold Oper.quietAt; go_simp
                simp only [Act.put, List.setIfInBounds_toArray, List.set_cons_zero, List.set_cons_succ]
                go_big_quiet_on
                go_big_quiet_want
                refine ⟨.pointer (some ⟨g, off + j * 2, none⟩), fun w' hw' => ?_, ?_⟩
                · unfold Oper.quietAt; go_simp
                simp only [Act.put, List.setIfInBounds_toArray, List.set_cons_zero, List.set_cons_succ]
                go_big_quiet_on
                go_big_quiet_want
                refine ⟨.int .i64 x, fun w' hw' => ?_, ?_⟩
                · have hh0 := (Kp.of_below hw').cell _ _ he0; unfold Oper.quietAt; go_simp
                simp only [Act.put, List.setIfInBounds_toArray, List.set_cons_zero, List.set_cons_succ]
                go_big_quiet_on
                (go_big_quiet_want; go_big_quiet_op; go_big_quiet_on)
                (go_big_quiet_want; go_big_quiet_op; go_big_quiet_on)
                go_big_quiet_want
                refine ⟨.pointer (some ⟨g, off + m * 2, none⟩), fun w' hw' => ?_, ?_⟩
                · unfold Oper.quietAt; go_simp
                simp only [Act.put, List.setIfInBounds_toArray, List.set_cons_zero, List.set_cons_succ]
                go_big_quiet_on
                go_big_quiet_want
                refine ⟨.pointer (some ⟨g, off + m * 2, none⟩), fun w' hw' => ?_, ?_⟩
                · unfold Oper.quietAt; go_simp
                simp only [Act.put, List.setIfInBounds_toArray, List.set_cons_zero, List.set_cons_succ]
                go_big_quiet_on
                go_big_quiet_want
                refine ⟨.int .i64 z, fun w' hw' => ?_, ?_⟩
                · have hh0 := (Kp.of_below hw').cell _ _ he1; unfold Oper.quietAt; go_simp
                simp only [Act.put, List.setIfInBounds_toArray, List.set_cons_zero, List.set_cons_succ]
                go_big_quiet_on
                go_big_quiet_want
                refine ⟨.bool false, fun w' hw' => ?_, ?_⟩
                · unfold Oper.quietAt; go_simp
                simp only [Act.put, List.setIfInBounds_toArray, List.set_cons_zero, List.set_cons_succ]
                go_big_quiet_on
                go_big_quiet_want
                refine ⟨.bool false, fun w' hw' => ?_, ?_⟩
                · unfold Oper.quietAt; go_simp
                simp only [Act.put, List.setIfInBounds_toArray, List.set_cons_zero, List.set_cons_succ]
                go_big_quiet_on
                go_big_quiet_want
                refine ⟨.bool false, fun w' hw' => ?_, ?_⟩
                · unfold Oper.quietAt; go_simp
                simp only [Act.put, List.setIfInBounds_toArray, List.set_cons_zero, List.set_cons_succ]
                go_big_quiet_on
                refine wpQuiet_nil ?_
                intro w3 hb3
                have HB3 := hid (below_step HB2.out hb3)
                clear hb3
                go_wp2
                go_roundw
                case rel => exact ⟨j + 1, by omega, by go_num, .inr ⟨m, (z, tz), rfl, HMb.out, HBz.out, least_keep (t := t) HX.out HLz.out (by omega)⟩, HB3.out⟩
                case measure => simp [intOf]; omega
          · obtain ⟨q, hq⟩ : ∃ q, k = q + 1 := ⟨k - 1, by omega⟩
            have hkl : q < (R.take k).length := by rw [List.length_take, HRl.out]; omega
            obtain ⟨y, ty, hRy⟩ : ∃ y ty, (R.take k)[q]? = some (y, ty) := ⟨_, _, List.getElem?_eq_getElem hkl⟩
            have hBo := (HO.out.bs.kp (Kp.of_below HBs.out))
            obtain ⟨go, oo, y9, _, _, _, hgo, hmo, ho0, _, _, _, _, _⟩ := hBo.at hkl
            rw [hRy] at hmo
            cases hmo
            subst hgo
            have HLa : Hid (Later (sortI (s.map Prod.fst)) k x ↔ y < x) := by
              have hRk : (sortB s)[q]? = some (y, ty) := by
                rw [← HR.out]
                rw [List.getElem?_take_of_lt (by omega)] at hRy
                exact hRy
              have hSk := sortB_get hRk
              constructor
              · intro h9
                exact h9 q y hq.symm hSk
              · intro h9 i z hi hz
                obtain rfl : i = q := by omega
                rw [hSk] at hz
                cases hz
                exact h9
            have hkb : ((k : Int) == 0) = false := by rw [beq_eq_false_iff_ne]; omega
            have hwk : IntKind.i64.wrap ((k : Int) - 1) = (q : Int) := by rw [IntWalk.i64_in _ ⟨by omega, by omega⟩]; omega
            have hqk : q < k := by omega
            clear hq hk0 hkl hRy hBo
            by_cases hxy : y < x
            · have hdy : decide (y < x) = true := by simpa using hxy
              have HLx : Hid (Later (sortI (s.map Prod.fst)) k x) := HLa.out.2 hxy
              go_wp2_with fail
              refine region_below (by kernel_rfl) (by kernel_rfl) ?_
              (go_big_quiet_want; go_big_quiet_op; go_big_quiet_on)
              go_big_quiet_want
              refine ⟨.int .i64 (k : Int), fun w' hw' => ?_, ?_⟩
              · unfold Oper.quietAt; go_simp
              simp only [Act.put, List.setIfInBounds_toArray, List.set_cons_zero, List.set_cons_succ]
              go_big_quiet_on
              go_big_quiet_want
              refine ⟨.bool false, fun w' hw' => ?_, ?_⟩
              · unfold Oper.quietAt; go_simp
              simp only [Act.put, List.setIfInBounds_toArray, List.set_cons_zero, List.set_cons_succ]
              go_big_quiet_on
              (go_big_quiet_want; go_big_quiet_op; go_big_quiet_on)
              (go_big_quiet_want; go_big_quiet_op; go_big_quiet_on)
              (go_big_quiet_want; go_big_quiet_op; go_big_quiet_on)
              go_big_quiet_want
              refine ⟨.pointer (some ⟨g, off + j * 2, none⟩), fun w' hw' => ?_, ?_⟩
              · unfold Oper.quietAt; go_simp
              simp only [Act.put, List.setIfInBounds_toArray, List.set_cons_zero, List.set_cons_succ]
              go_big_quiet_on
              go_big_quiet_want
              refine ⟨.pointer (some ⟨g, off + j * 2, none⟩), fun w' hw' => ?_, ?_⟩
              · unfold Oper.quietAt; go_simp
              simp only [Act.put, List.setIfInBounds_toArray, List.set_cons_zero, List.set_cons_succ]
              go_big_quiet_on
              go_big_quiet_want
              refine ⟨.int .i64 x, fun w' hw' => ?_, ?_⟩
              · have hh0 := (Kp.of_below hw').cell _ _ hc0; unfold Oper.quietAt; go_simp
              simp only [Act.put, List.setIfInBounds_toArray, List.set_cons_zero, List.set_cons_succ]
              go_big_quiet_on
              (go_big_quiet_want; go_big_quiet_op; go_big_quiet_on)
              (go_big_quiet_want; go_big_quiet_op; go_big_quiet_on)
              go_big_quiet_want
              refine ⟨.int .i64 (k : Int), fun w' hw' => ?_, ?_⟩
              · unfold Oper.quietAt; go_simp
              simp only [Act.put, List.setIfInBounds_toArray, List.set_cons_zero, List.set_cons_succ]
              go_big_quiet_on
              go_big_quiet_want
              refine ⟨.int .i64 (q : Int), fun w' hw' => ?_, ?_⟩
              · unfold Oper.quietAt; go_simp
              simp only [Act.put, List.setIfInBounds_toArray, List.set_cons_zero, List.set_cons_succ]
              go_big_quiet_on
              go_big_quiet_want
              refine ⟨.pointer (some ⟨go, oo + q * 2, none⟩), fun w' hw' => ?_, ?_⟩
              · unfold Oper.quietAt; go_simp
              simp only [Act.put, List.setIfInBounds_toArray, List.set_cons_zero, List.set_cons_succ]
              go_big_quiet_on
              go_big_quiet_want
              refine ⟨.pointer (some ⟨go, oo + q * 2, none⟩), fun w' hw' => ?_, ?_⟩
              · unfold Oper.quietAt; go_simp
              simp only [Act.put, List.setIfInBounds_toArray, List.set_cons_zero, List.set_cons_succ]
              go_big_quiet_on
              go_big_quiet_want
              refine ⟨.int .i64 y, fun w' hw' => ?_, ?_⟩
              · have hh0 := (Kp.of_below hw').cell _ _ ho0; unfold Oper.quietAt; go_simp
              simp only [Act.put, List.setIfInBounds_toArray, List.set_cons_zero, List.set_cons_succ]
              go_big_quiet_on
              go_big_quiet_want
              refine ⟨.bool true, fun w' hw' => ?_, ?_⟩
              · unfold Oper.quietAt; go_simp
              simp only [Act.put, List.setIfInBounds_toArray, List.set_cons_zero, List.set_cons_succ]
              go_big_quiet_on
              go_big_quiet_want
              refine ⟨.bool true, fun w' hw' => ?_, ?_⟩
              · unfold Oper.quietAt; go_simp
              simp only [Act.put, List.setIfInBounds_toArray, List.set_cons_zero, List.set_cons_succ]
              go_big_quiet_on
              (go_big_quiet_want; go_big_quiet_op; go_big_quiet_on)
              refine wpQuiet_nil ?_
              intro w2 hb2
              have HB2 := hid (below_step HBs.out hb2)
              rcases HLe.out with ⟨hlv, hfi⟩ | ⟨m, b, hlv, hmb, hbl9, hle⟩
              · subst hlv
                have HFi := hid hfi
                clear hb2 hc0 hfi
                go_wp2_with fail
                refine region_below (by kernel_rfl) (by kernel_rfl) ?_
                (go_big_quiet_want; go_big_quiet_op; go_big_quiet_on)
                (go_big_quiet_want; go_big_quiet_op; go_big_quiet_on)
                (go_big_quiet_want; go_big_quiet_op; go_big_quiet_on)
                go_big_quiet_want
                refine ⟨.bool true, fun w' hw' => ?_, ?_⟩
                · unfold Oper.quietAt; go_simp
                simp only [Act.put, List.setIfInBounds_toArray, List.set_cons_zero, List.set_cons_succ]
                go_big_quiet_on
                (go_big_quiet_want; go_big_quiet_op; go_big_quiet_on)
                go_big_quiet_skip
                go_big_quiet_skip
                go_big_quiet_skip
                go_big_quiet_skip
                go_big_quiet_skip
                go_big_quiet_skip
                go_big_quiet_skip
                go_big_quiet_skip
                go_big_quiet_skip
                go_big_quiet_skip
                go_big_quiet_skip
                go_big_quiet_want
                refine ⟨.bool true, fun w' hw' => ?_, ?_⟩
                · unfold Oper.quietAt; go_simp
                simp only [Act.put, List.setIfInBounds_toArray, List.set_cons_zero, List.set_cons_succ]
                go_big_quiet_on
                go_big_quiet_want
                refine ⟨.bool true, fun w' hw' => ?_, ?_⟩
                · unfold Oper.quietAt; go_simp
                simp only [Act.put, List.setIfInBounds_toArray, List.set_cons_zero, List.set_cons_succ]
                go_big_quiet_on
                refine wpQuiet_nil ?_
                intro w3 hb3
                have HB3 := hid (below_step HB2.out hb3)
                clear hb3
                go_wp2
                go_roundw
                case rel => exact ⟨j + 1, by omega, by go_num, .inr ⟨j, (x, t), rfl, HX.out, HLx.out, least_first HX.out HFi.out⟩, HB3.out⟩
                case measure => simp [intOf]; omega
              · obtain ⟨z, tz⟩ := b
                subst hlv
                have HMb := hid hmb
                have HBz := hid hbl9
                have HLz := hid hle
                have hml := (List.getElem?_eq_some_iff.1 hmb).1
                obtain ⟨gz, oz, z2, za, tz2, zc, hgz, hmz, hcz, _, _, _, _, _⟩ := ((HI.out.kp (Kp.of_below HBr.out)).kp (Kp.of_below HBs.out)).at hml
                rw [hmb] at hmz
                cases hmz
                simp only [Option.some.injEq, Addr.mk.injEq, and_true] at hgz
                obtain ⟨rfl, rfl⟩ := hgz
                have he0 := (Kp.of_below hb2).cell _ _ hc0
                have he1 := (Kp.of_below hb2).cell _ _ hcz
                clear hb2 hc0 hcz hmb hbl9 hle
                have hm0 : decide ((m : Int) < 0) = false := by simp
                by_cases hxz : x < z
                · have hdz : decide (x < z) = true := by simpa using hxz
                  go_wp2_with fail
                  refine region_below (by kernel_rfl) (by kernel_rfl) ?_
                  (go_big_quiet_want; go_big_quiet_op; go_big_quiet_on)
                  (go_big_quiet_want; go_big_quiet_op; go_big_quiet_on)
                  (go_big_quiet_want; go_big_quiet_op; go_big_quiet_on)
                  go_big_quiet_want
                  refine ⟨.bool false, fun w' hw' => ?_, ?_⟩
                  · unfold Oper.quietAt; go_simp
                  simp only [Act.put, List.setIfInBounds_toArray, List.set_cons_zero, List.set_cons_succ]
                  go_big_quiet_on
                  (go_big_quiet_want; go_big_quiet_op; go_big_quiet_on)
                  (go_big_quiet_want; go_big_quiet_op; go_big_quiet_on)
                  (go_big_quiet_want; go_big_quiet_op; go_big_quiet_on)
                  go_big_quiet_want
                  refine ⟨.pointer (some ⟨g, off + j * 2, none⟩), fun w' hw' => ?_, ?_⟩
                  · unfold Oper.quietAt; go_simp
                  simp only [Act.put, List.setIfInBounds_toArray, List.set_cons_zero, List.set_cons_succ]
                  go_big_quiet_on
                  go_big_quiet_want
                  refine ⟨.pointer (some ⟨g, off + j * 2, none⟩), fun w' hw' => ?_, ?_⟩
                  · unfold Oper.quietAt; go_simp
                  simp only [Act.put, List.setIfInBounds_toArray, List.set_cons_zero, List.set_cons_succ]
                  go_big_quiet_on
                  go_big_quiet_want
                  refine ⟨.int .i64 x, fun w' hw' => ?_, ?_⟩
                  · have hh0 := (Kp.of_below hw').cell _ _ he0; unfold Oper.quietAt; go_simp
                  simp only [Act.put, List.setIfInBounds_toArray, List.set_cons_zero, List.set_cons_succ]
                  go_big_quiet_on
                  (go_big_quiet_want; go_big_quiet_op; go_big_quiet_on)
                  (go_big_quiet_want; go_big_quiet_op; go_big_quiet_on)
                  go_big_quiet_want
                  refine ⟨.pointer (some ⟨g, off + m * 2, none⟩), fun w' hw' => ?_, ?_⟩
                  · unfold Oper.quietAt; go_simp
                  simp only [Act.put, List.setIfInBounds_toArray, List.set_cons_zero, List.set_cons_succ]
                  go_big_quiet_on
                  go_big_quiet_want
                  refine ⟨.pointer (some ⟨g, off + m * 2, none⟩), fun w' hw' => ?_, ?_⟩
                  · unfold Oper.quietAt; go_simp
                  simp only [Act.put, List.setIfInBounds_toArray, List.set_cons_zero, List.set_cons_succ]
                  go_big_quiet_on
                  go_big_quiet_want
                  refine ⟨.int .i64 z, fun w' hw' => ?_, ?_⟩
                  · have hh0 := (Kp.of_below hw').cell _ _ he1; unfold Oper.quietAt; go_simp
                  simp only [Act.put, List.setIfInBounds_toArray, List.set_cons_zero, List.set_cons_succ]
                  go_big_quiet_on
                  go_big_quiet_want
                  refine ⟨.bool true, fun w' hw' => ?_, ?_⟩
                  · unfold Oper.quietAt; go_simp
                  simp only [Act.put, List.setIfInBounds_toArray, List.set_cons_zero, List.set_cons_succ]
                  go_big_quiet_on
                  go_big_quiet_want
                  refine ⟨.bool true, fun w' hw' => ?_, ?_⟩
                  · unfold Oper.quietAt; go_simp
                  simp only [Act.put, List.setIfInBounds_toArray, List.set_cons_zero, List.set_cons_succ]
                  go_big_quiet_on
                  go_big_quiet_want
                  refine ⟨.bool true, fun w' hw' => ?_, ?_⟩
                  · unfold Oper.quietAt; go_simp
                  simp only [Act.put, List.setIfInBounds_toArray, List.set_cons_zero, List.set_cons_succ]
                  go_big_quiet_on
                  refine wpQuiet_nil ?_
                  intro w3 hb3
                  have HB3 := hid (below_step HB2.out hb3)
                  clear hb3
                  go_wp2
                  go_roundw
                  case rel => exact ⟨j + 1, by omega, by go_num, .inr ⟨j, (x, t), rfl, HX.out, HLx.out, least_less (tz := tz) HX.out HLz.out hxz⟩, HB3.out⟩
                  case measure => simp [intOf]; omega
                · have hdz : decide (x < z) = false := by simpa using hxz
                  go_wp2_with fail
                  refine region_below (by kernel_rfl) (by kernel_rfl) ?_
                  (go_big_quiet_want; go_big_quiet_op; go_big_quiet_on)
                  (go_big_quiet_want; go_big_quiet_op; go_big_quiet_on)
                  (go_big_quiet_want; go_big_quiet_op; go_big_quiet_on)
                  go_big_quiet_want
                  refine ⟨.bool false, fun w' hw' => ?_, ?_⟩
                  · unfold Oper.quietAt; go_simp
                  simp only [Act.put, List.setIfInBounds_toArray, List.set_cons_zero, List.set_cons_succ]
                  go_big_quiet_on
                  (go_big_quiet_want; go_big_quiet_op; go_big_quiet_on)
                  (go_big_quiet_want; go_big_quiet_op; go_big_quiet_on)
                  (go_big_quiet_want; go_big_quiet_op; go_big_quiet_on)
                  go_big_quiet_want
                  refine ⟨.pointer (some ⟨g, off + j * 2, none⟩), fun w' hw' => ?_, ?_⟩
                  · unfold Oper.quietAt; go_simp
                  simp only [Act.put, List.setIfInBounds_toArray, List.set_cons_zero, List.set_cons_succ]
                  go_big_quiet_on
                  go_big_quiet_want
                  refine ⟨.pointer (some ⟨g, off + j * 2, none⟩), fun w' hw' => ?_, ?_⟩
                  · unfold Oper.quietAt; go_simp
                  simp only [Act.put, List.setIfInBounds_toArray, List.set_cons_zero, List.set_cons_succ]
                  go_big_quiet_on
                  go_big_quiet_want
                  refine ⟨.int .i64 x, fun w' hw' => ?_, ?_⟩
                  · have hh0 := (Kp.of_below hw').cell _ _ he0; unfold Oper.quietAt; go_simp
                  simp only [Act.put, List.setIfInBounds_toArray, List.set_cons_zero, List.set_cons_succ]
                  go_big_quiet_on
                  (go_big_quiet_want; go_big_quiet_op; go_big_quiet_on)
                  (go_big_quiet_want; go_big_quiet_op; go_big_quiet_on)
                  go_big_quiet_want
                  refine ⟨.pointer (some ⟨g, off + m * 2, none⟩), fun w' hw' => ?_, ?_⟩
                  · unfold Oper.quietAt; go_simp
                  simp only [Act.put, List.setIfInBounds_toArray, List.set_cons_zero, List.set_cons_succ]
                  go_big_quiet_on
                  go_big_quiet_want
                  refine ⟨.pointer (some ⟨g, off + m * 2, none⟩), fun w' hw' => ?_, ?_⟩
                  · unfold Oper.quietAt; go_simp
                  simp only [Act.put, List.setIfInBounds_toArray, List.set_cons_zero, List.set_cons_succ]
                  go_big_quiet_on
                  go_big_quiet_want
                  refine ⟨.int .i64 z, fun w' hw' => ?_, ?_⟩
                  · have hh0 := (Kp.of_below hw').cell _ _ he1; unfold Oper.quietAt; go_simp
                  simp only [Act.put, List.setIfInBounds_toArray, List.set_cons_zero, List.set_cons_succ]
                  go_big_quiet_on
                  go_big_quiet_want
                  refine ⟨.bool false, fun w' hw' => ?_, ?_⟩
                  · unfold Oper.quietAt; go_simp
                  simp only [Act.put, List.setIfInBounds_toArray, List.set_cons_zero, List.set_cons_succ]
                  go_big_quiet_on
                  go_big_quiet_want
                  refine ⟨.bool false, fun w' hw' => ?_, ?_⟩
                  · unfold Oper.quietAt; go_simp
                  simp only [Act.put, List.setIfInBounds_toArray, List.set_cons_zero, List.set_cons_succ]
                  go_big_quiet_on
                  go_big_quiet_want
                  refine ⟨.bool false, fun w' hw' => ?_, ?_⟩
                  · unfold Oper.quietAt; go_simp
                  simp only [Act.put, List.setIfInBounds_toArray, List.set_cons_zero, List.set_cons_succ]
                  go_big_quiet_on
                  refine wpQuiet_nil ?_
                  intro w3 hb3
                  have HB3 := hid (below_step HB2.out hb3)
                  clear hb3
                  go_wp2
                  go_roundw
                  case rel => exact ⟨j + 1, by omega, by go_num, .inr ⟨m, (z, tz), rfl, HMb.out, HBz.out, least_keep (t := t) HX.out HLz.out (by omega)⟩, HB3.out⟩
                  case measure => simp [intOf]; omega
            · have hdy : decide (y < x) = false := by simpa using hxy
              have HLx : Hid (¬ Later (sortI (s.map Prod.fst)) k x) := fun h9 => hxy (HLa.out.1 h9)
              have HNo : Hid ((u4 = .int .i64 (-1) ∧ ∀ (i : Nat) (b : Bd), i < j + 1 → s[i]? = some b → ¬ Later (sortI (s.map Prod.fst)) k b.1) ∨ ∃ (m : Nat) (b : Bd), u4 = .int .i64 m ∧ s[m]? = some b ∧ Later (sortI (s.map Prod.fst)) k b.1 ∧ ∀ (i : Nat) (b' : Bd), i < j + 1 → s[i]? = some b' → Later (sortI (s.map Prod.fst)) k b'.1 → b.1 ≤ b'.1) := by
                rcases HLe.out with ⟨h1, h2⟩ | ⟨m, b, h1, h2, h3, h4⟩
                · refine .inl ⟨h1, fun i b hi hb => ?_⟩
                  rcases Nat.lt_succ_iff_lt_or_eq.1 hi with h9 | h9
                  · exact h2 i b h9 hb
                  · subst h9; rw [HX.out] at hb; cases hb; exact HLx.out
                · refine .inr ⟨m, b, h1, h2, h3, fun i b' hi hb hl => ?_⟩
                  rcases Nat.lt_succ_iff_lt_or_eq.1 hi with h9 | h9
                  · exact h4 i b' h9 hb hl
                  · subst h9; rw [HX.out] at hb; cases hb; exact absurd hl HLx.out
              go_wp2_with fail
              refine region_below (by kernel_rfl) (by kernel_rfl) ?_
              (go_big_quiet_want; go_big_quiet_op; go_big_quiet_on)
              go_big_quiet_want
              refine ⟨.int .i64 (k : Int), fun w' hw' => ?_, ?_⟩
              · unfold Oper.quietAt; go_simp
              simp only [Act.put, List.setIfInBounds_toArray, List.set_cons_zero, List.set_cons_succ]
              go_big_quiet_on
              go_big_quiet_want
              refine ⟨.bool false, fun w' hw' => ?_, ?_⟩
              · unfold Oper.quietAt; go_simp
              simp only [Act.put, List.setIfInBounds_toArray, List.set_cons_zero, List.set_cons_succ]
              go_big_quiet_on
              (go_big_quiet_want; go_big_quiet_op; go_big_quiet_on)
              (go_big_quiet_want; go_big_quiet_op; go_big_quiet_on)
              (go_big_quiet_want; go_big_quiet_op; go_big_quiet_on)
              go_big_quiet_want
              refine ⟨.pointer (some ⟨g, off + j * 2, none⟩), fun w' hw' => ?_, ?_⟩
              · unfold Oper.quietAt; go_simp
              simp only [Act.put, List.setIfInBounds_toArray, List.set_cons_zero, List.set_cons_succ]
              go_big_quiet_on
              go_big_quiet_want
              refine ⟨.pointer (some ⟨g, off + j * 2, none⟩), fun w' hw' => ?_, ?_⟩
              · unfold Oper.quietAt; go_simp
              simp only [Act.put, List.setIfInBounds_toArray, List.set_cons_zero, List.set_cons_succ]
              go_big_quiet_on
              go_big_quiet_want
              refine ⟨.int .i64 x, fun w' hw' => ?_, ?_⟩
              · have hh0 := (Kp.of_below hw').cell _ _ hc0; unfold Oper.quietAt; go_simp
              simp only [Act.put, List.setIfInBounds_toArray, List.set_cons_zero, List.set_cons_succ]
              go_big_quiet_on
              (go_big_quiet_want; go_big_quiet_op; go_big_quiet_on)
              (go_big_quiet_want; go_big_quiet_op; go_big_quiet_on)
              go_big_quiet_want
              refine ⟨.int .i64 (k : Int), fun w' hw' => ?_, ?_⟩
              · unfold Oper.quietAt; go_simp
              simp only [Act.put, List.setIfInBounds_toArray, List.set_cons_zero, List.set_cons_succ]
              go_big_quiet_on
              go_big_quiet_want
              refine ⟨.int .i64 (q : Int), fun w' hw' => ?_, ?_⟩
              · unfold Oper.quietAt; go_simp
              simp only [Act.put, List.setIfInBounds_toArray, List.set_cons_zero, List.set_cons_succ]
              go_big_quiet_on
              go_big_quiet_want
              refine ⟨.pointer (some ⟨go, oo + q * 2, none⟩), fun w' hw' => ?_, ?_⟩
              · unfold Oper.quietAt; go_simp
              simp only [Act.put, List.setIfInBounds_toArray, List.set_cons_zero, List.set_cons_succ]
              go_big_quiet_on
              go_big_quiet_want
              refine ⟨.pointer (some ⟨go, oo + q * 2, none⟩), fun w' hw' => ?_, ?_⟩
              · unfold Oper.quietAt; go_simp
              simp only [Act.put, List.setIfInBounds_toArray, List.set_cons_zero, List.set_cons_succ]
              go_big_quiet_on
              go_big_quiet_want
              refine ⟨.int .i64 y, fun w' hw' => ?_, ?_⟩
              · have hh0 := (Kp.of_below hw').cell _ _ ho0; unfold Oper.quietAt; go_simp
              simp only [Act.put, List.setIfInBounds_toArray, List.set_cons_zero, List.set_cons_succ]
              go_big_quiet_on
              go_big_quiet_want
              refine ⟨.bool false, fun w' hw' => ?_, ?_⟩
              · unfold Oper.quietAt; go_simp
              simp only [Act.put, List.setIfInBounds_toArray, List.set_cons_zero, List.set_cons_succ]
              go_big_quiet_on
              go_big_quiet_want
              refine ⟨.bool false, fun w' hw' => ?_, ?_⟩
              · unfold Oper.quietAt; go_simp
              simp only [Act.put, List.setIfInBounds_toArray, List.set_cons_zero, List.set_cons_succ]
              go_big_quiet_on
              (go_big_quiet_want; go_big_quiet_op; go_big_quiet_on)
              refine wpQuiet_nil ?_
              intro w2 hb2
              have HB2 := hid (below_step HBs.out hb2)
              clear hb2 hc0
              go_wp2_with fail
              refine region_below (by kernel_rfl) (by kernel_rfl) ?_
              (go_big_quiet_want; go_big_quiet_op; go_big_quiet_on)
              (go_big_quiet_want; go_big_quiet_op; go_big_quiet_on)
              go_big_quiet_skip
              go_big_quiet_skip
              go_big_quiet_skip
              go_big_quiet_skip
              go_big_quiet_skip
              go_big_quiet_skip
              go_big_quiet_skip
              go_big_quiet_skip
              go_big_quiet_skip
              go_big_quiet_skip
              go_big_quiet_skip
              go_big_quiet_skip
              go_big_quiet_skip
              go_big_quiet_skip
              go_big_quiet_skip
              go_big_quiet_want
              refine ⟨.bool false, fun w' hw' => ?_, ?_⟩
              · unfold Oper.quietAt; go_simp
              simp only [Act.put, List.setIfInBounds_toArray, List.set_cons_zero, List.set_cons_succ]
              go_big_quiet_on
              refine wpQuiet_nil ?_
              intro w3 hb3
              have HB3 := hid (below_step HB2.out hb3)
              clear hb3
              go_wp2
              go_roundw
              case rel => exact ⟨j + 1, by omega, by go_num, HNo.out, HB3.out⟩
              case measure => simp [intOf]; omega
        · have hj9 : j = s.length := by omega
          rcases HLe.out with ⟨_, hfi⟩ | ⟨m, b, hlv, hmb, hlb, hle⟩
          · exfalso
            obtain ⟨i, b, hi, hlb⟩ := sortB_some HN.out hlt
            exact hfi i b (by rw [hj9]; exact (List.getElem?_eq_some_iff.1 hi).1) hi hlb
          · obtain ⟨z, tz⟩ := b
            subst hlv
            have hnx : (sortB s)[k]? = some (z, tz) := sortB_next HN.out hlt hmb hlb (fun i b' hi => hle i b' (by omega))
            rw [← HR.out] at hnx
            have hml := (List.getElem?_eq_some_iff.1 hmb).1
            obtain ⟨gz, zcap, u, hsv, hz0, hz1, hE⟩ := ((HW.out.later HBr.out).later hbl).row hmb
            simp only [Value.slice.injEq, true_and] at hsv
            obtain ⟨rfl, rfl⟩ := hsv
            obtain ⟨za, zc, hu, _, _⟩ := hE.1.shape
            subst hu
            have hBW := below_step HBr.out hbl
            obtain ⟨v9, w9, hr9, ho9, hb9⟩ := (HO.out.later hbl).snoc 41 hBW hBW.size (Nat.le_refl _) hE (by rw [List.length_take]; omega)
            rw [← take_get hnx] at ho9
            have HR9 := hid hr9
            have HO9 := hid ho9
            have HB9 := hid hb9
            clear hr9 ho9 hb9 hmb hlb hle hnx hE hbl hBW
            go_wp2_with (first
              | (at_builtin; refine wpList_append_run rfl _ _ _ rfl _ _ rfl rfl HR9.out ?_))
            go_roundw
            case rel => exact ⟨k + 1, hlt, HO9.out, HB9.out⟩
            case measure =>
              obtain ⟨_, _, hv9, _, _⟩ := HO9.out.shape
              rw [hv9]
              simp only [lenB, List.length_take, HRl.out]
              omega
    · have hke : R.take k = R := List.take_of_length_le (by rw [HRl.out]; omega)
      have HO2 := HO
      rw [hke] at HO2
      have hks : k = s.length := by omega
      clear hke
      go_wp2
      go_ret
      exact ⟨_, rfl, HO2.out, HBr.out⟩

end Go.Proofs.YtfeeafkfjngemaaGreatDoor

/- The document's Inner and Match of layer 5 walked. -/
namespace Go.Proofs.YtfeeafkfjngemaaGreatDoor
open Go.RowKit Go.Maps Go.BigFrame

theorem sort_vars {L : List Bd} {p : List Int} {k : Nat} (hn : (L.map Prod.fst).Nodup) (hv : ∀ n, n ∈ L.map Prod.fst ↔ ∃ c ∈ p.take k, c < 0 ∧ n = -1 - c) (hk : p.length ≤ k) : sortB L = bindsL (fun n => L.lookup n) p := by
  unfold sortB bindsL
  rw [rise_eq (sortI_rise hn) (sortI_rise (vars_once p)) fun x => ?_]
  rw [sortI_mem, sortI_mem, hv x, mem_varsL, List.take_of_length_le hk]

set_option maxRecDepth 100000 in
set_option maxHeartbeats 3200000 in
theorem refInner_any (sv pv tv : Value) (sig : List Sy) (p t : List Int) (w : World) (hs : Sg w sv sig) (hp : Is w pv p) (ht : Is w tv t) (ha : ArOk sig) (hrp : rowE sig p = 0) (hrt : rowE sig t = 0) (hl1 : p.length * 32 ≤ 140737488351232) (hl2 : t.length * 8 ≤ 140737488351232) :
    Calls Tryz.prog 55 #[sv, pv, tv] w fun e w' => Below w.heap.size w w' ∧ ((e = .returned (.tuple #[.slice none 0 0, .bool false]) ∧ ∀ f, Rt sig f → ¬ Sm f p t) ∨
      ∃ v f, e = .returned (.tuple #[v, .bool true]) ∧ Rt sig f ∧ Sm f p t ∧ OBW w.heap.size w' v (bindsL f p)) := by
  obtain ⟨ap, cp, hpv, hcp1, hcp2, _⟩ := hp.flatI
  subst hpv
  obtain ⟨at', ct, htv, hct1, hct2, _⟩ := ht.flatI
  subst htv
  have HS := hid hs
  have HP := hid hp
  have HI := hid ht
  have HA := hid ha
  have HIn := hid (Inn.start hrp hrt)
  clear hs hp ht ha hrp hrt
  go_enter Tryz.func55, Tryz.ntmps55
  go_wp2
  go_loopw [8, 9, 10] (fun lv qv iv wr => ∃ (k q : Nat) (L : List Bd), k ≤ p.length ∧ q ≤ t.length ∧ L.length ≤ k ∧ iv = .int .i64 k ∧ qv = .int .i64 q ∧ Inn sig p t k q L ∧ OBX w.heap.size w.heap.size wr lv L ∧ Below w.heap.size w wr) (fun _ _ iv _ => p.length - (intOf iv).toNat)
  case atStart => exact ⟨0, 0, [], Nat.zero_le _, Nat.zero_le _, Nat.le_refl _, rfl, rfl, HIn.out, OBX.nil _ _ _, Below.refl _ _⟩
  case round =>
    obtain ⟨k, q, L, hk, hq, hLk, rfl, rfl, hin, hox, hbl⟩ := hrel
    have HIr := hid hin
    have HO := hid hox
    have HB := hid hbl
    clear HIn hin hox
    obtain ⟨lo, lc, hlv, hlc1, hlc2⟩ := HO.out.shape
    subst hlv
    unfold maxLen at hlc2
    by_cases hlt : k < p.length
    · have hqt := HIr.out.more hlt
      obtain ⟨gp, op, c, rfl, hc, hpx, hc1, hc2⟩ := (HP.out.kp (Kp.of_below hbl)).at hlt
      obtain ⟨gt, ot, d, rfl, hd, htx, _, _⟩ := (HI.out.kp (Kp.of_below hbl)).at hqt
      by_cases h0 : c < 0
      · have hcn : ¬ 0 ≤ c := by omega
        obtain ⟨u, u1, u2, u3, u4, u5, u6, u7⟩ := HIr.out.var HA.out hc h0
        have hul := row_ne u4
        have HU1 := hid u1
        have HU5 := hid u5
        have HU6 := hid u6
        have HU7 := hid u7
        have HMi : Hid (Is wr (.slice (some ⟨gt, ot + q, none⟩) u.length (ct - q)) u) := by
          have h9 := Is.mid (k := q) (m := u.length) (HI.out.kp (Kp.of_below hbl)) hqt u2
          rw [u3] at h9
          exact h9
        obtain ⟨n, hn⟩ : ∃ n, n = -1 - c := ⟨_, rfl⟩
        have hwn : IntKind.i64.wrap (-1 - c) = n := by rw [IntWalk.i64_in _ ⟨by omega, by omega⟩, hn]
        have hn1 : -9223372036854775808 ≤ n := by omega
        have hn2 : n ≤ 9223372036854775807 := by omega
        rw [← hn] at HU5 HU6 HU7
        have hct3 : ct ≠ q := by omega
        clear u1 u3 u4 u5 u6 u7 hc hd htx hn HIr
        go_wp2_with fail
        refine (refEnd_any sv _ sig t q u.length wr (HS.out.kp (Kp.of_below HB.out)) (HI.out.kp (Kp.of_below HB.out)) HA.out hl2 HU1.out).mono ?_
        rintro e w5 ⟨rfl, hw5⟩
        have hw8 := hw5.symm
        subst hw8
        clear hw5
        have hS0 := below_alloc (w := wr) (.cells #[] 3)
        obtain ⟨va, wa, hra, hoa, hga⟩ := copy_ints 26 (w := wr.alloc (.cells #[] 3)) (base := wr.heap.size) (g := wr.heap.size) (empty_row (w := wr) 3 (Nat.le_refl _)) (HMi.out.kp (Kp.of_below hS0)) hS0.size (by omega)
        have hka : Below wr.heap.size wr wa := hS0.grown hga hS0.size (fun j hj => by cases hj; exact Nat.le_refl _)
        have HRa := hid hra
        have HBa := hid (below_step HB.out hka)
        have HOa := hid (hoa.mono HB.out.size)
        have HOl := hid (HO.out.later hka)
        have hpx2 := (Kp.of_below hka).cell _ _ hpx
        obtain ⟨aa, ca, hva, _, _⟩ := hoa.shape
        subst hva
        clear hra hoa hga hka hS0 HMi HU1 hbl hpx HO
        go_wp2_with (first
          | (rw [show q + u.length - q = u.length by omega])
          | (at_builtin; refine wpList_append_run rfl _ _ _ rfl _ _ rfl rfl HRa.out ?_))
        refine (refBound5_any _ L n wa HOl.out.bs).mono ?_
        rintro e w6 ⟨hw6, hre⟩
        have hw8 := hw6.symm
        subst hw8
        clear hw6
        rcases hre with ⟨hno, rfl⟩ | ⟨m, tm, hm, hsm, rfl⟩
        · have HIn := hid (HU5.out hno)
          obtain ⟨v9, w9, hr9, ho9, hb9⟩ := HOl.out.snoc 41 (x := n) (t := u) HBa.out HBa.out.size (Nat.le_refl _) ⟨HOa.out, hn1, hn2, by simp only; omega⟩ (by omega)
          have HR9 := hid hr9
          have HO9 := hid ho9
          have HB9 := hid hb9
          clear hr9 ho9 hb9 hno HU5 HU6 HU7 HRa
          go_wp2_with (first
            | (at_builtin; refine wpList_append_run rfl _ _ _ rfl _ _ rfl rfl HR9.out ?_))
          go_roundw
          case rel => exact ⟨k + 1, q + u.length, L ++ [(n, u)], hlt, u2, by rw [List.length_append]; simp; omega, by go_num, by go_num, HIn.out, HO9.out, HB9.out⟩
          case measure => simp [intOf]; omega
        · have hml := (List.getElem?_eq_some_iff.1 hm).1
          obtain ⟨gl, ol, x9, xa, t9, xc, rfl, hm9, hc0, hcx, hit, _, _, _⟩ := HOl.out.bs.at hml
          rw [hm] at hm9
          cases hm9
          have HIt := hid hit
          have HSm := hid hsm
          have hm0 : decide ((m : Int) < 0) = false := by simp
          clear hm hit hsm HRa
          go_wp2_with fail
          refine (sameRowD_any _ _ tm u wa HIt.out HOa.out.is).mono ?_
          rintro e w7 ⟨rfl, nd, hw7⟩
          have hb7 := drawn_below hw7
          have HB7 := hid (below_step HBa.out hb7)
          have HO7 := hid (HOl.out.later hb7)
          clear hb7 hw7
          by_cases hex : tm = u
          · rw [decide_eq_true hex]
            have HIn := hid (HU6.out (by rw [← hex]; exact HSm.out))
            clear HU5 HU6 HU7 hex
            go_wp2
            go_roundw
            case rel => exact ⟨k + 1, q + u.length, L, hlt, u2, by omega, by go_num, by go_num, HIn.out, HO7.out, HB7.out⟩
            case measure => simp [intOf]; omega
          · rw [decide_eq_false hex]
            have HNo := hid (HU7.out tm HSm.out hex)
            clear HU5 HU6 HU7 hex
            go_wp2
            go_ret2
            exact ⟨HB7.out, .inl ⟨rfl, HNo.out⟩⟩
      · have hcn : 0 ≤ c := by omega
        obtain ⟨s1, s2⟩ := HIr.out.sym HA.out hc hd h0
        have HS1 := hid s1
        have HS2 := hid s2
        clear s1 s2 hc hd HIr hbl
        by_cases hcd : c = d
        · subst hcd
          have hdd : (c != c) = false := by simp
          have HIn := hid (HS2.out rfl)
          clear HS1 HS2
          go_wp2
          go_quiet (fail)
          go_wp2
          go_roundw
          case rel => exact ⟨k + 1, q + 1, L, hlt, hqt, by omega, by go_num, by go_num, HIn.out, HO.out.later (drawn_below rfl), below_step HB.out (drawn_below rfl)⟩
          case measure => simp [intOf]; omega
        · have hdd : (d != c) = true := by rw [bne_iff_ne]; exact fun h => hcd h.symm
          have HNo := hid (HS1.out hcd)
          clear HS1 HS2
          go_wp2
          go_quiet (fail)
          go_wp2
          go_ret2
          exact ⟨below_step HB.out (drawn_below rfl), .inl ⟨rfl, HNo.out⟩⟩
    · obtain ⟨d1, d2⟩ := HIr.out.done (by omega)
      have HRt := hid d1
      have HSm := hid d2
      have HSo := hid (sort_vars HIr.out.once HIr.out.vars (by omega))
      have HOn := hid HIr.out.once
      clear d1 d2 hbl
      go_wp2_with fail
      refine (refSorted_any _ L w.heap.size wr (HO.out.obw (Nat.le_refl _) (Nat.le_refl _)) HB.out.size HOn.out (by omega)).mono ?_
      rintro e w2 ⟨v2, rfl, ho2, hb2⟩
      have HO2 := hid (ho2.obw (b := w.heap.size) (Nat.le_refl _) HB.out.size)
      have HB2 := hid (below_step HB.out hb2)
      clear ho2 hb2
      go_wp2
      go_ret2
      exact ⟨HB2.out, .inr ⟨_, fun n => L.lookup n, rfl, HRt.out, HSm.out, by rw [← HSo.out]; exact HO2.out⟩⟩

end Go.Proofs.YtfeeafkfjngemaaGreatDoor
