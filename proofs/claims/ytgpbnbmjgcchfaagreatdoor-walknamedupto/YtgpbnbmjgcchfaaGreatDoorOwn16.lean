/- Texts of the proof, one behind the other. -/
import Derived.Test.YtgpbnbmjgcchfaaGreatDoorOwn15
import Derived.Test.YtgpbnbmjgcchfaaGreatDoorOwn4
import Derived.Test.YtgpbnbmjgcchfaaGreatDoorOwn7
/- goThrough of package step walked. -/
namespace Go.Proofs.YtgpbnbmjgcchfaaGreatDoor
open Go.RowKit Go.Maps Go.BigFrame

/-- Every block but B that is no row of redexes is as it was. -/
def Keep (B : Nat) (w w' : World) : Prop := w.heap.size ≤ w'.heap.size ∧ ∀ (k : Nat) (o : Obj), k ≠ B → w.heap[k]? = some o → (∀ cs fr, o ≠ .cells cs 32 fr) → w'.heap[k]? = some o

theorem Keep.refl (B : Nat) (w : World) : Keep B w w := ⟨Nat.le_refl _, fun _ _ _ h _ => h⟩
theorem Keep.trans {B : Nat} {w w' w'' : World} (h : Keep B w w') (h' : Keep B w' w'') : Keep B w w'' := ⟨Nat.le_trans h.1 h'.1, fun k o hk ho hr => h'.2 k o hk (h.2 k o hk ho hr) hr⟩
theorem Keep.of_below {B : Nat} {w w' : World} (h : Below w.heap.size w w') : Keep B w w' := ⟨h.size, fun k o _ ho _ => ((grown_of_below h none).block k (Array.getElem?_eq_some_iff.1 ho).1 (by simp)).trans ho⟩

/-- The value of goThrough's inner closure. -/
abbrev withinF (b : Nat) : Value := .func (.func 57) #[] #[.pointer (some ⟨b, 0, none⟩), .pointer (some ⟨b + 1, 0, none⟩), .pointer (some ⟨b + 3, 0, none⟩), .pointer (some ⟨b + 2, 0, none⟩)]

/-- goThrough's variables, from the block b on. -/
structure Gv (w : World) (b : Nat) (sv tv lv : Value) : Prop where
  sig : w.heap[b]? = some (.cells #[sv] 22)
  trm : w.heap[b + 1]? = some (.cells #[tv] 26)
  look : w.heap[b + 2]? = some (.cells #[lv] 66)
  self : w.heap[b + 3]? = some (.cells #[withinF b] 90)

theorem Gv.keep {w w' : World} {b B : Nat} {sv tv lv : Value} (h : Gv w b sv tv lv) (hk : Keep B w w') (hB : B < b) : Gv w' b sv tv lv :=
  ⟨hk.2 _ _ (by omega) h.sig (fun cs fr e => by cases e), hk.2 _ _ (by omega) h.trm (fun cs fr e => by cases e), hk.2 _ _ (by omega) h.look (fun cs fr e => by cases e), hk.2 _ _ (by omega) h.self (fun cs fr e => by cases e)⟩

/-- What a look must do: its state goes from those seen to one more. -/
structure Lk (sig : List Sy) (t : List Int) (w0 : World) (B : Nat) (F : FuncId) (caps : Array Value) (stop : Nat × Nat → Bool) (Inv : List (Nat × Nat) → World → Prop) : Prop where
  call : ∀ (vs : List (Nat × Nat)) (x y : Nat) (pv : Value) (W : World), VOk sig t (x, y) → vs.length < t.length → Inv vs W → Below w0.heap.size w0 W → Is w0 pv ((t.drop x).take (y - x)) → Calls Tryz.prog F (#[.int .i64 (x : Int), pv] ++ caps) W fun e w' => e = .returned (.bool (stop (x, y))) ∧ Inv (vs ++ [(x, y)]) w' ∧ Below w0.heap.size w0 w' ∧ Keep B W w'
  later : ∀ vs W W', Inv vs W → Below W.heap.size W W' → Inv vs W'
  enter : ∀ args w, (callFunc F args).run Tryz.prog w = .ok (.enter F args) w

theorem Gv.cells {w : World} {b : Nat} {sv tv lv : Value} (h : Gv w b sv tv lv) : w.cell? ⟨b, 0, none⟩ = some sv ∧ w.cell? ⟨b + 1, 0, none⟩ = some tv ∧ w.cell? ⟨b + 2, 0, none⟩ = some lv ∧ w.cell? ⟨b + 3, 0, none⟩ = some (withinF b) :=
  ⟨cell_of_row _ _ _ _ _ _ h.sig, cell_of_row _ _ _ _ _ _ h.trm, cell_of_row _ _ _ _ _ _ h.look, cell_of_row _ _ _ _ _ _ h.self⟩

theorem pv_pos {sig : List Sy} {u : List Int} {a : Nat} {v : List (Nat × Nat)} (h : Pv sig u a v) : 0 < u.length := by
  cases h
  simp

theorem flat_ge {α : Type} : ∀ (us : List (List α)), (∀ u ∈ us, 0 < u.length) → us.length ≤ us.flatten.length
  | [], _ => Nat.le_refl _
  | u :: us, h => by
    have h1 := flat_ge us (fun x hx => h x (by simp [hx]))
    have h2 := h u (by simp)
    simp only [List.length_cons, List.flatten_cons, List.length_append]
    omega

set_option maxRecDepth 100000 in
set_option maxHeartbeats 3200000 in
theorem within_any {sig : List Sy} {t : List Int} {w0 : World} {B : Nat} {F : FuncId} {caps : Array Value} {stop : Nat × Nat → Bool} {Inv : List (Nat × Nat) → World → Prop} (HL : Lk sig t w0 B F caps stop Inv) (b sc gt ot tc : Nat) (so : Option Addr) (hBb : B < b)
    (hs : Sg w0 (.slice so sig.length sc) sig) (ht : Is w0 (.slice (some ⟨gt, ot, none⟩) t.length tc) t) (hlen : t.length ≤ 1152921504606846976) {u : List Int} {a : Nat} {vs : List (Nat × Nat)} (h : Pv sig u a vs) :
    ∀ (p q : List Int) (old : List (Nat × Nat)) (W : World), t = p ++ u ++ q → p.length = a → old.length + u.length ≤ t.length → Gv W b (.slice so sig.length sc) (.slice (some ⟨gt, ot, none⟩) t.length tc) (.func (.func F) #[] caps) → Inv old W → Below w0.heap.size w0 W →
    Calls Tryz.prog 57 #[.int .i64 (a : Int), .pointer (some ⟨b, 0, none⟩), .pointer (some ⟨b + 1, 0, none⟩), .pointer (some ⟨b + 3, 0, none⟩), .pointer (some ⟨b + 2, 0, none⟩)] W fun e w' => ∃ n : Nat, e = .returned (.tuple #[.int .i64 (n : Int), .bool (vs.any stop)]) ∧ (vs.any stop = false → n = a + u.length) ∧ Inv (old ++ upto stop vs) w' ∧ Below w0.heap.size w0 w' ∧ Keep B W w' := by
  induction h with
  | mk c us a vss hc hn hv hr h ih =>
    intro p q old W htp hp hol hG hI hB
    have HIh := hid ih
    have HLt : Hid (∀ i, (vss.take i).flatten.length = (us.take i).flatten.length) := lens_take hv (fun i u v h1 h2 => pv_len (h i u v h1 h2))
    have HOl : Hid (old.length + (us.flatten.length + 1) ≤ t.length) := by show _ ≤ _; rw [List.length_cons] at hol; exact hol
    clear hol
    have HG := hid hG
    have HI := hid hI
    have HB := hid hB
    have HS := hid hs
    have HTr := hid ht
    have HE := hid (show t = p ++ (c :: us.flatten) ++ q ∧ p.length = a ∧ vss.length = us.length from ⟨htp, hp, hv⟩)
    have HLk := hid HL
    have htl : a + 1 + us.flatten.length ≤ t.length := by rw [htp]; simp [hp]; omega
    have hga : t[a]? = some c := by rw [htp, List.append_assoc, List.getElem?_append_right (by omega), hp, Nat.sub_self]; rfl
    have hal : a < t.length := by omega
    have HAr : Hid (∀ w', Below W.heap.size W w' → Calls Tryz.prog 58 #[.slice so sig.length sc, .int .i64 c] w' fun e w2 => e = .returned (.int .i64 (us.length : Int)) ∧ w2 = w') := fun w' hw' => by
      rw [hn]
      exact arity_any _ sig c w' ((hs.kp (Kp.of_below hB)).kp (Kp.of_below hw')) hc
    have HVk : Hid (VOk sig t (a, a + 1 + us.flatten.length)) := pv_ok (Pv.mk c us a vss hc hn hv hr h) t p q htp hp _ (by simp)
    obtain ⟨z0, z1, z2, z3⟩ := hG.cells
    obtain ⟨g9, o9, c9, e9, hc9, z4, _, _⟩ := (ht.kp (Kp.of_below hB)).at hal
    cases e9
    rw [hga] at hc9
    cases hc9
    have hw1 : IntKind.i64.wrap ((a : Int) + 1) = ((a + 1 : Nat) : Int) := by rw [IntWalk.i64_in _ ⟨by omega, by omega⟩]; omega
    have hfl : us.length ≤ us.flatten.length := flat_ge us fun u hu => by
      obtain ⟨i, hi⟩ := List.getElem?_of_mem hu
      have hil := (List.getElem?_eq_some_iff.1 hi).1
      exact pv_pos (h i u vss[i] hi (List.getElem?_eq_getElem (by omega)))
    clear hs ht htp hp hga hv hr h ih hG hI hB hn hc HL
    go_enter Tryz.func57, Tryz.ntmps57
    go_wp2_with fail
    refine region_below (by kernel_rfl) (by kernel_rfl) ?_
    go_big_quiet_want
    refine ⟨.slice so sig.length sc, fun w' hw' => ?_, ?_⟩
    · have hh0 := (Kp.of_below hw').cell _ _ z0; unfold Oper.quietAt; go_simp
    simp only [Act.put, List.setIfInBounds_toArray, List.set_cons_zero, List.set_cons_succ]
    go_big_quiet_on
    go_big_quiet_want
    refine ⟨.slice (some ⟨gt, ot, none⟩) t.length tc, fun w' hw' => ?_, ?_⟩
    · have hh0 := (Kp.of_below hw').cell _ _ z1; unfold Oper.quietAt; go_simp
    simp only [Act.put, List.setIfInBounds_toArray, List.set_cons_zero, List.set_cons_succ]
    go_big_quiet_on
    (go_big_quiet_want; go_big_quiet_op; go_big_quiet_on)
    go_big_quiet_want
    refine ⟨.pointer (some ⟨gt, ot + a, none⟩), fun w' hw' => ?_, ?_⟩
    · unfold Oper.quietAt; go_simp
    simp only [Act.put, List.setIfInBounds_toArray, List.set_cons_zero, List.set_cons_succ]
    go_big_quiet_on
    go_big_quiet_want
    refine ⟨.int .i64 c, fun w' hw' => ?_, ?_⟩
    · have hh0 := (Kp.of_below hw').cell _ _ z4; unfold Oper.quietAt; go_simp
    simp only [Act.put, List.setIfInBounds_toArray, List.set_cons_zero, List.set_cons_succ]
    go_big_quiet_on
    go_big_quiet_want
    refine ⟨.int .i64 (us.length : Int), fun w' hw' => ?_, ?_⟩
    · unfold Oper.quietAt; go_simp; exact (HAr.out w' hw').mono (fun e w2 ⟨he, hb⟩ => ⟨he, by rw [hb]; exact hw'⟩)
    simp only [Act.put, List.setIfInBounds_toArray, List.set_cons_zero, List.set_cons_succ]
    go_big_quiet_on
    (go_big_quiet_want; go_big_quiet_op; go_big_quiet_on)
    refine wpQuiet_nil ?_
    intro w1 hb1
    have HB1 := hid hb1
    have HK1 : Hid (Keep B W w1) := Keep.of_below hb1
    have HI1 := hid (HLk.out.later _ _ _ HI.out hb1)
    have HBw1 := hid (below_step HB.out hb1)
    clear hb1 z0 z1 z2 z3 z4 HAr
    go_wp2
    go_loopw [8, 19] (fun ev iv wr => ∃ (i E : Nat), i ≤ us.length ∧ iv = .int .i64 i ∧ ev = .int .i64 E ∧ E = a + 1 + (us.take i).flatten.length ∧ (vss.take i).flatten.any stop = false ∧ Inv (old ++ (vss.take i).flatten) wr ∧ Below w0.heap.size w0 wr ∧ Keep B W wr) (fun _ iv _ => us.length - (intOf iv).toNat)
    case atStart => exact ⟨0, a + 1, Nat.zero_le _, rfl, by go_num, by simp, by simp, by simpa using HI1.out, HBw1.out, HK1.out⟩
    case round =>
      obtain ⟨i, E, hi, rfl, rfl, hE, hno, hI, hB, hK⟩ := hrel
      have HEe := hid hE
      have HNo := hid hno
      have HIi := hid hI
      have HBi := hid hB
      have HKi := hid hK
      have HGi := hid (HG.out.keep hK hBb)
      obtain ⟨z0, z1, z2, z3⟩ := HGi.out.cells
      clear hE hno hI hB hK HB1 HK1 HI1 HBw1
      by_cases hlt : i < us.length
      · have hd : decide ((i : Int) < (us.length : Int)) = true := by simpa using hlt
        obtain ⟨htp, hp, hv⟩ := HE.out
        have hu : us[i]? = some us[i] := List.getElem?_eq_getElem hlt
        have hvi : vss[i]? = some vss[i] := List.getElem?_eq_getElem (by omega)
        obtain ⟨ui, hui⟩ : ∃ x, x = us[i] := ⟨_, rfl⟩
        obtain ⟨vi, hvi2⟩ : ∃ x, x = vss[i] := ⟨_, rfl⟩
        rw [← hui] at hu
        rw [← hvi2] at hvi
        have HCall := hid (HIh.out i ui vi hu hvi (p ++ c :: (us.take i).flatten) ((us.drop (i + 1)).flatten ++ q) (old ++ (vss.take i).flatten) wr (by rw [htp, flat_split8 hu]; simp) (by simp [hp]; omega) (by
          have e1 := HLt.out i
          have e2 := HOl.out
          have e3 := congrArg List.length (flat_split8 hu)
          simp only [List.length_append] at e3 ⊢
          omega) HGi.out HIi.out HBi.out)
        rw [← HEe.out] at HCall
        have HT1 : Hid ((us.take (i + 1)).flatten.length = (us.take i).flatten.length + ui.length) := by show _ = _; rw [take_get hu]; simp
        have HT2 : Hid ((vss.take (i + 1)).flatten = (vss.take i).flatten ++ vi) := by show _ = _; rw [take_get hvi]; simp
        have HT3 : Hid (vss.flatten = (vss.take i).flatten ++ vi ++ (vss.drop (i + 1)).flatten) := flat_split8 hvi
        have hil : i ≤ 1152921504606846976 := by omega
        clear htp hp hv hu hvi hui hvi2
        go_wp2_with fail
        refine HCall.out.mono ?_
        rintro e w2 ⟨n, rfl, hn2, hI2, hB2, hK2⟩
        have HI2 := hid hI2
        have HB2 := hid hB2
        have HK2 := hid (HKi.out.trans hK2)
        have HN2 := hid hn2
        clear hn2 hI2 hB2 hK2 HCall z0 z1 z2 z3
        cases hst : vi.any stop with
        | true =>
          have HF : Hid ((vss.flatten ++ [(a, a + 1 + us.flatten.length)]).any stop = true) := by
            show _ = _
            rw [HT3.out, List.any_append, List.any_append, List.any_append, hst]
            simp
          have HU : Hid (old ++ upto stop (vss.flatten ++ [(a, a + 1 + us.flatten.length)]) = old ++ (vss.take i).flatten ++ upto stop vi) := by
            show _ = _
            rw [HT3.out, List.append_assoc, List.append_assoc, upto_no _ HNo.out, upto_yes _ hst, List.append_assoc]
          clear hst
          go_wp2
          go_ret2
          exact ⟨0, (by rw [HF.out]; rfl), (fun h9 => by rw [HF.out] at h9; cases h9), (by rw [HU.out]; exact HI2.out), HB2.out, HK2.out⟩
        | false =>
          have hnE : n = E + ui.length := HN2.out hst
          have HNE := hid hnE
          have HNo2 : Hid ((vss.take (i + 1)).flatten.any stop = false) := by show _ = _; rw [HT2.out, List.any_append, HNo.out, hst]; rfl
          have HI3 : Hid (Inv (old ++ (vss.take (i + 1)).flatten) w2) := by
            have h9 := HI2.out
            rw [upto_all hst] at h9
            show Inv _ _
            rw [HT2.out, ← List.append_assoc]
            exact h9
          clear hst hnE
          go_wp2
          go_roundw
          case rel => exact ⟨i + 1, n, hlt, by go_num, rfl, by rw [HNE.out, HEe.out, HT1.out]; omega, HNo2.out, HI3.out, HB2.out, HK2.out⟩
          case measure => simp only [intOf]; omega
      · have hd : decide ((i : Int) < (us.length : Int)) = false := by simpa using (show ¬ (i : Int) < (us.length : Int) by omega)
        obtain rfl : i = us.length := by omega
        have hEv : E = a + 1 + us.flatten.length := by have h9 := HEe.out; rw [List.take_length] at h9; exact h9
        have HEv := hid hEv
        have HNo2 : Hid (vss.flatten.any stop = false) := by
          have h9 := HNo.out
          rw [← HE.out.2.2, List.take_length] at h9
          exact h9
        have HI2 : Hid (Inv (old ++ vss.flatten) wr) := by
          have h9 := HIi.out
          rw [← HE.out.2.2, List.take_length] at h9
          exact h9
        have haE : a ≤ E := by omega
        have hEt : E ≤ t.length := by omega
        have htc : t.length ≤ tc := by
          obtain ⟨ao, c9, hv9, h19, _⟩ := HTr.out.flatI
          simp only [Value.slice.injEq] at hv9
          omega
        have hbd : Below wr.heap.size wr wr.drew := (Below.refl _ _).drew
        have HCl := hid (HLk.out.call (old ++ vss.flatten) a E (.slice (some ⟨gt, ot + a, none⟩) (E - a) (tc - a)) wr.drew (by rw [HEv.out]; exact HVk.out) (by
          have e1 := HLt.out us.length
          have e2 := HOl.out
          rw [List.take_length, ← HE.out.2.2, List.take_length] at e1
          rw [List.length_append]
          omega) (HLk.out.later _ _ _ HI2.out hbd) (below_step HBi.out hbd) (HTr.out.mid hal (by omega)))
        have eg := HLk.out.enter
        have HAn : Hid ((vss.flatten ++ [(a, a + 1 + us.flatten.length)]).any stop = stop (a, E)) := by
          show _ = _
          rw [List.any_append, HNo2.out, ← HEv.out]
          simp
        have htE : E ≤ tc := by omega
        have hta : ¬ tc = a := by omega
        clear HEe hEv hbd
        go_wp2
        go_region_with (first
          | (refine HCl.out.mono ?_; rintro e w9 ⟨rfl, hI9, hB9, hK9⟩; have HI9 := hid hI9; have HB9 := hid hB9; have HK9 := hid (HKi.out.trans ((Keep.of_below (Below.refl _ _).drew).trans hK9)); clear hI9 hB9 hK9))
        all_goals (
          go_wp2
          go_ret2
          refine ⟨E, ?_, fun _ => by rw [HEv.out]; simp; omega, ?_, HB9.out, HK9.out⟩
          · rw [HAn.out]
            rfl
          · rw [upto_no _ HNo2.out, ← HEv.out, ← List.append_assoc]
            have h9 := HI9.out
            simp only [upto]
            cases stop (a, E) <;> exact h9)

end Go.Proofs.YtgpbnbmjgcchfaaGreatDoor

/- goThrough of package step walked: the whole. -/
namespace Go.Proofs.YtgpbnbmjgcchfaaGreatDoor
open Go.RowKit Go.Maps Go.BigFrame

set_option maxRecDepth 100000 in
set_option maxHeartbeats 1600000 in
theorem goThrough_any {sig : List Sy} {t : List Int} {w0 : World} {B : Nat} {F : FuncId} {caps : Array Value} {stop : Nat × Nat → Bool} {Inv : List (Nat × Nat) → World → Prop} (HL : Lk sig t w0 B F caps stop Inv) (sv tv : Value) (w : World)
    (hs : Sg w0 sv sig) (ht : Is w0 tv t) (hlen : t.length ≤ 1152921504606846976) {vs : List (Nat × Nat)} (h : Pv sig t 0 vs) (hI : Inv [] w) (hB : Below w0.heap.size w0 w) (hBw : B < w.heap.size) :
    Calls Tryz.prog 29 #[sv, tv, .func (.func F) #[] caps] w fun e w' => e = .returned (.bool (vs.any stop)) ∧ Inv (upto stop vs) w' ∧ Below w0.heap.size w0 w' ∧ Keep B w w' := by
  obtain ⟨so, sc, rfl, hso, hsc, _⟩ := Row.flat hs
  obtain ⟨to2, tc, rfl, hto, htc, _⟩ := ht.flatI
  obtain ⟨gt, ot, _, rfl, _⟩ := ht.at (pv_pos h)
  obtain ⟨V, hV⟩ : ∃ X, X = (((w.alloc (.cells #[.slice so sig.length sc] 22)).alloc (.cells #[.slice (some ⟨gt, ot, none⟩) t.length tc] 26)).alloc (.cells #[.func (.func F) #[] caps] 66)).alloc (.cells #[.nilFunc] 90) := ⟨_, rfl⟩
  have hbV : Below w.heap.size w V := by rw [hV]; exact below_step (below_step (below_step (below_alloc _) (below_alloc _)) (below_alloc _)) (below_alloc _)
  have s1 : (w.alloc (.cells #[.slice so sig.length sc] 22)).heap.size = w.heap.size + 1 := World.size_alloc _ _
  have v3 : V.heap[w.heap.size + 3]? = some (.cells #[.nilFunc] 90) := by
    have h9 := heap_alloc_new (((w.alloc (.cells #[.slice so sig.length sc] 22)).alloc (.cells #[.slice (some ⟨gt, ot, none⟩) t.length tc] 26)).alloc (.cells #[.func (.func F) #[] caps] 66)) (.cells #[.nilFunc] 90)
    rw [World.size_alloc, World.size_alloc, World.size_alloc, ← hV] at h9
    exact h9
  have v2 : V.heap[w.heap.size + 2]? = some (.cells #[.func (.func F) #[] caps] 66) := by
    have h9 := heap_alloc_new ((w.alloc (.cells #[.slice so sig.length sc] 22)).alloc (.cells #[.slice (some ⟨gt, ot, none⟩) t.length tc] 26)) (.cells #[.func (.func F) #[] caps] 66)
    rw [World.size_alloc, World.size_alloc] at h9
    rw [hV]
    exact ((grown_of_below (below_alloc _) none).block _ (by simp only [World.size_alloc]; omega) (by simp)).trans h9
  have v1 : V.heap[w.heap.size + 1]? = some (.cells #[.slice (some ⟨gt, ot, none⟩) t.length tc] 26) := by
    have h9 := heap_alloc_new (w.alloc (.cells #[.slice so sig.length sc] 22)) (.cells #[.slice (some ⟨gt, ot, none⟩) t.length tc] 26)
    rw [World.size_alloc] at h9
    rw [hV]
    exact ((grown_of_below (below_alloc _) none).block _ (by simp only [World.size_alloc]; omega) (by simp)).trans (((grown_of_below (below_alloc _) none).block _ (by simp only [World.size_alloc]; omega) (by simp)).trans h9)
  have v0 : V.heap[w.heap.size]? = some (.cells #[.slice so sig.length sc] 22) := by
    have h9 := heap_alloc_new w (.cells #[.slice so sig.length sc] 22)
    rw [hV]
    exact ((grown_of_below (below_alloc _) none).block _ (by simp only [World.size_alloc]; omega) (by simp)).trans (((grown_of_below (below_alloc _) none).block _ (by simp only [World.size_alloc]; omega) (by simp)).trans (((grown_of_below (below_alloc _) none).block _ (by simp only [World.size_alloc]; omega) (by simp)).trans h9))
  obtain ⟨W, hW⟩ : ∃ X, X = V.setCell ⟨w.heap.size + 3, 0, none⟩ (withinF w.heap.size) := ⟨_, rfl⟩
  have hst : (store ⟨w.heap.size + 3, 0, none⟩ (withinF w.heap.size)).run Tryz.prog V = .ok () W := by
    have e1 := cell_of_row _ _ 0 _ _ _ v3
    have e2 : V.frozen? ⟨w.heap.size + 3, 0, none⟩ = false := frozen_of_row _ _ 0 _ _ v3
    rw [run_store _ _ _ _ _ rfl, hW]
    simp only [List.getElem?_toArray, List.getElem?_cons_zero] at e1
    rw [e1, e2]
    rfl
  have hbW : Below w.heap.size w W := by rw [hW]; exact hbV.setCell (p := ⟨w.heap.size + 3, 0, none⟩) (by simp) _
  have hG : Gv W w.heap.size (.slice so sig.length sc) (.slice (some ⟨gt, ot, none⟩) t.length tc) (.func (.func F) #[] caps) := by
    rw [hW]
    refine ⟨?_, ?_, ?_, heap_setCell_same _ _ _ _ _ _ v3⟩
    · rw [heap_setCell_other _ _ _ _ (by simp)]; exact v0
    · rw [heap_setCell_other _ _ _ _ (by simp)]; exact v1
    · rw [heap_setCell_other _ _ _ _ (by simp)]; exact v2
  have HW := hid (within_any HL w.heap.size sc gt ot tc so hBw hs ht hlen h [] [] [] W (by simp) rfl (by simp) hG (HL.later _ _ _ hI hbW) (below_step hB hbW))
  have HK := hid (Keep.of_below (B := B) hbW)
  have z := hG.cells.2.2.2
  have HSt := hid hst
  have HV := hid hV
  clear hs ht hI hB HL hG h hst hV hW v0 v1 v2 v3 s1 hbV hbW
  go_enter Tryz.func29, Tryz.ntmps29
  go_wp2
  rw [← HV.out]
  rw [show w.heap.size + 1 + 1 + 1 = w.heap.size + 3 by omega, show w.heap.size + 1 + 1 = w.heap.size + 2 by omega]
  rw [HSt.out]
  go_wp2_with fail
  refine HW.out.mono ?_
  rintro e w2 ⟨n, rfl, _, hI2, hB2, hK2⟩
  have HI2 := hid hI2
  have HB2 := hid hB2
  have HK2 := hid (HK.out.trans hK2)
  clear hI2 hB2 hK2 z
  obtain ⟨S, hS⟩ : ∃ S, S = vs.any stop := ⟨_, rfl⟩
  have HSe := hid hS
  rw [← hS]
  clear hS
  go_wp2
  go_ret
  exact ⟨ret1b HSe.out, by simpa using HI2.out, HB2.out, HK2.out⟩

end Go.Proofs.YtgpbnbmjgcchfaaGreatDoor

/- The document's Vars walked. -/
namespace Go.Proofs.YtgpbnbmjgcchfaaGreatDoor
open Go.RowKit Go.Maps Go.BigFrame

theorem mem_take_next {m : List Int} {k : Nat} {x c : Int} (h : m[k]? = some x) : decide (c ∈ m.take (k + 1)) = (decide (c ∈ m.take k) || decide (x = c)) := by
  rw [take_get h]
  by_cases h1 : c ∈ m.take k
  · simp [h1]
  · by_cases h2 : x = c
    · simp [h2]
    · have h3 : ¬ c = x := fun e => h2 e.symm
      simp [h1, h2, h3]

set_option maxRecDepth 100000 in
set_option maxHeartbeats 1600000 in
theorem refVars_any (v : Value) (t : List Int) (w : World) (h : Is w v t) (hb : t.length * 8 ≤ 140737488355328) :
    Calls Tryz.prog 78 #[v] w fun e w' => ∃ v', e = .returned v' ∧ OwI w' w.heap.size v' (varsL t) ∧ Below w.heap.size w w' := by
  obtain ⟨ao, cap, rfl, hao, hca, q0⟩ := Row.flat h
  unfold maxLen at hca
  have HT := hid h
  clear h q0
  go_enter Tryz.func78, Tryz.ntmps78
  go_wp2
  go_loopw [3, 4] (fun x iv wr => ∃ (i : Nat) (m : List Int), i ≤ t.length ∧ iv = .int .i64 i ∧ metA [] t = metA m (t.drop i) ∧ m.length ≤ i ∧ ZI m ∧ OwI wr w.heap.size x (m.map fun c => -1 - c) ∧ Below w.heap.size w wr) (fun _ iv _ => t.length - (intOf iv).toNat)
  case atStart => exact ⟨0, [], Nat.zero_le _, rfl, rfl, Nat.le_refl _, fun k x hk => (by simp at hk), nilI _ _, Below.refl _ _⟩
  case round =>
    obtain ⟨i, m, hi, rfl, hme, hml, hzm, how, hbl⟩ := hrel
    obtain ⟨bo, bc, hxv, hbc1, hbc2⟩ := how.shape
    rw [List.length_map] at hxv hbc1
    subst hxv
    unfold maxLen at hbc2
    have HMe := hid hme
    have HOw := hid how
    have HB := hid hbl
    have HZ := hid hzm
    clear hme how hzm
    by_cases hlt : i < t.length
    · obtain ⟨g, off, c, rfl, hx1, hx2, hx3, hx4⟩ := (HT.out.kp (Kp.of_below hbl)).at hlt
      have HD := hid (drop_get hx1)
      clear hx1 hbl
      go_wp2
      go_loopw [5, 6] (fun bv kv ws => ∃ (k : Nat) (B : Bool), k ≤ m.length ∧ kv = .int .i64 k ∧ bv = .bool B ∧ B = (decide (0 ≤ c) || decide (c ∈ m.take k)) ∧ ∃ n, ws = wr.drewN n) (fun _ kv _ => m.length - (intOf kv).toNat)
      case atStart => exact ⟨0, decide (0 ≤ c), Nat.zero_le _, rfl, rfl, by simp, 0, rfl⟩
      case round =>
        obtain ⟨k, B, hk, rfl, rfl, hB, n, rfl⟩ := hrel
        have HBb := hid hB
        clear hB
        by_cases hkl : k < m.length
        · obtain ⟨x, hx⟩ : ∃ x, m[k]? = some x := ⟨_, List.getElem?_eq_getElem hkl⟩
          have hxz := HZ.out k x hx
          obtain ⟨g2, off2, y, rfl, hy1, hy2, hy3, hy4⟩ := HOw.out.is.at (k := k) (by rw [List.length_map]; exact hkl)
          rw [List.getElem?_map, hx] at hy1
          simp only [Option.map_some, Option.some.injEq] at hy1
          have HN := hid (mem_take_next (c := c) hx)
          clear hx
          cases B with
          | true =>
            have HB2 : Hid (true = (decide (0 ≤ c) || decide (c ∈ m.take (k + 1)))) := by
              show _ = _
              rw [HN.out, ← Bool.or_assoc, ← HBb.out]
              rfl
            clear hy1 hy2
            go_wp2
            go_quiet (fail)
            go_wp2
            go_roundw
            case rel => exact ⟨k + 1, true, by omega, by go_num, rfl, HB2.out, _, rfl⟩
            case measure => simp [intOf]; omega
          | false =>
            have hwc : IntKind.i64.wrap (-1 - c) = -1 - c := IntWalk.i64_in _ ⟨by omega, by omega⟩
            by_cases hxc : x = c
            · have HB2 : Hid (true = (decide (0 ≤ c) || decide (c ∈ m.take (k + 1)))) := by
                show _ = _
                rw [HN.out, ← Bool.or_assoc, ← HBb.out, decide_eq_true hxc]
                rfl
              have hyc : (y == -1 - c) = true := by rw [beq_iff_eq]; omega
              clear hy1 hxc
              go_wp2
              go_quiet (fail)
              go_wp2
              go_roundw
              case rel => exact ⟨k + 1, true, by omega, by go_num, rfl, HB2.out, _, rfl⟩
              case measure => simp [intOf]; omega
            · have HB2 : Hid (false = (decide (0 ≤ c) || decide (c ∈ m.take (k + 1)))) := by
                show _ = _
                rw [HN.out, ← Bool.or_assoc, ← HBb.out, decide_eq_false hxc]
                rfl
              have hyc : (y == -1 - c) = false := by rw [beq_eq_false_iff_ne]; omega
              clear hy1 hxc
              go_wp2
              go_quiet (fail)
              go_wp2
              go_roundw
              case rel => exact ⟨k + 1, false, by omega, by go_num, rfl, HB2.out, _, rfl⟩
              case measure => simp [intOf]; omega
        · have hke : k = m.length := by omega
          have HBf : Hid (B = (decide (0 ≤ c) || decide (c ∈ m))) := by show _ = _; rw [HBb.out, hke, List.take_length]
          have HBn := hid (below_drewN HB.out n)
          have HOn := hid (HOw.out.later (below_drewN (Below.refl _ _) n))
          clear HBb
          cases B with
          | true =>
            have HN : Hid (metA [] t = metA m (t.drop (i + 1))) := by
              show _ = _
              rw [HMe.out, HD.out, metA, if_pos]
              have := HBf.out
              simp only [Bool.true_eq, Bool.or_eq_true, decide_eq_true_eq] at this
              exact this
            go_wp2
            go_roundw
            case rel => exact ⟨i + 1, m, by omega, by go_num, HN.out, by omega, HZ.out, HOn.out, HBn.out⟩
            case measure => simp [intOf]; omega
          | false =>
            have hno : ¬ (0 ≤ c ∨ c ∈ m) := by
              have := HBf.out
              intro h9
              rw [eq_comm, Bool.or_eq_false_iff, decide_eq_false_iff_not, decide_eq_false_iff_not] at this
              rcases h9 with h9 | h9
              · exact this.1 h9
              · exact this.2 h9
            have HN : Hid (metA [] t = metA (m ++ [c]) (t.drop (i + 1))) := by
              show _ = _
              rw [HMe.out, HD.out, metA, if_neg hno]
            have hwc : IntKind.i64.wrap (-1 - c) = -1 - c := IntWalk.i64_in _ ⟨by omega, by omega⟩
            obtain ⟨v6, w6, hr6, ho6, hg6, _⟩ := join_one 26 (c := -1 - c) HOn.out (by omega) (by omega) HBn.out.size (by rw [List.length_map]; omega)
            have hb6 := (below_step HBn.out (below_alloc _)).grown hg6 (below_step HBn.out (below_alloc _)).size (fun j hj => own_blk HOn.out.2 hj)
            have HR6 := hid hr6
            have HO6 : Hid (OwI w6 w.heap.size v6 ((m ++ [c]).map fun c => -1 - c)) := by
              rw [List.map_append]
              exact ho6
            have HB6 := hid hb6
            have HZ2 : Hid (ZI (m ++ [c])) := fun k y hk => by
              by_cases hkl : k < m.length
              · rw [List.getElem?_append_left hkl] at hk
                exact HZ.out k y hk
              · rw [List.getElem?_append_right (by omega)] at hk
                have : y = c := by
                  have h9 := List.mem_of_getElem? hk
                  simpa using h9
                omega
            clear hr6 ho6 hg6 hb6 hno
            go_wp2_with (first
              | (at_builtin; refine wpList_append_run rfl _ _ _ rfl _ _ rfl rfl HR6.out ?_))
            go_roundw
            case rel => exact ⟨i + 1, m ++ [c], by omega, by go_num, HN.out, by rw [List.length_append, List.length_singleton]; omega, HZ2.out, HO6.out, HB6.out⟩
            case measure => simp [intOf]; omega
    · have HF : Hid (varsL t = m.map fun c => -1 - c) := by show _ = _; unfold varsL; rw [HMe.out, List.drop_of_length_le (by omega)]; rfl
      go_wp2
      go_ret
      exact ⟨_, rfl, by rw [HF.out]; exact HOw.out, HB.out⟩

end Go.Proofs.YtgpbnbmjgcchfaaGreatDoor

/- The document's Plain, has, rule, Check and Right of layer 7 walked. -/
namespace Go.Proofs.YtgpbnbmjgcchfaaGreatDoor
open Go.RowKit Go.Maps Go.BigFrame

theorem suf_iff (s : ByteArray) : sufB s = true ↔ 0 < s.size ∧ lastB s = 35 := by
  have hl : s.data.toList.length = s.size := (Lib.size_eq s).symm
  constructor
  · intro h
    change Lib.hasSuffix s.data.toList [35] = true at h
    unfold Lib.hasSuffix at h
    rw [List.isSuffixOf_iff_suffix] at h
    obtain ⟨l, e⟩ := h
    have hn := congrArg List.length e
    simp only [List.length_append, List.length_cons, List.length_nil] at hn
    refine ⟨by omega, ?_⟩
    unfold lastB
    rw [← e, show s.size - 1 = l.length by omega]
    simp
  · rintro ⟨h0, h⟩
    show Lib.hasSuffix s.data.toList [35] = true
    unfold Lib.hasSuffix
    rw [List.isSuffixOf_iff_suffix]
    have hx : s.data.toList.drop (s.size - 1) = [35] := by
      unfold lastB at h
      rw [List.drop_eq_getElem_cons (by omega), List.drop_of_length_le (by omega)]
      rw [List.getD_eq_getElem?_getD, List.getElem?_eq_getElem (by omega), Option.getD_some] at h
      rw [h]
    exact ⟨s.data.toList.take (s.size - 1), by rw [← hx, List.take_append_drop]⟩

theorem mark_suf {s : ByteArray} (h : symB s = true) : markB s = sufB s := by
  rw [Bool.eq_iff_iff]
  constructor
  · intro hm
    unfold markB at hm
    rw [Bool.and_eq_true, Bool.and_eq_true, decide_eq_true_eq, decide_eq_true_eq] at hm
    exact (suf_iff s).2 ⟨hm.1, hm.2.1⟩
  · intro hs
    obtain ⟨h0, h1⟩ := (suf_iff s).1 hs
    unfold symB at h
    rw [bare_hash s h0 h1] at h
    unfold markB
    rw [decide_eq_true h0, decide_eq_true h1, h]
    rfl

theorem sigGo_names (sig : List Sy) : ∀ (r : List Sy) (k : Nat), sigGo sig k r = 0 → ∀ s ∈ r, symB s.1 = true
  | [], _, _, s, hs => by simp at hs
  | a :: r, k, h, s, hs => by
    unfold sigGo at h
    cases ha : symB a.1 with
    | false => rw [ha] at h; simp at h
    | true =>
      rw [ha, if_pos rfl] at h
      split at h
      · omega
      · split at h
        · omega
        · rcases List.mem_cons.1 hs with rfl | hs
          · exact ha
          · exact sigGo_names sig r (k + 1) h s hs

theorem sig_marks {sig : List Sy} (h : sigE sig = 0) : (sig.any fun s => markB s.1) = (sig.any fun s => sufB s.1) := by
  unfold sigE at h
  split at h
  · omega
  · have hn := sigGo_names sig sig 0 h
    rw [Bool.eq_iff_iff, List.any_eq_true, List.any_eq_true]
    constructor
    · rintro ⟨s, hs, hm⟩
      exact ⟨s, hs, by rw [← mark_suf (hn s hs)]; exact hm⟩
    · rintro ⟨s, hs, hm⟩
      exact ⟨s, hs, by rw [mark_suf (hn s hs)]; exact hm⟩

def plainE (sig : List Sy) : Int := if sigE sig = 0 then (if 64 < sig.length then 37 else if (sig.any fun s => sufB s.1) then 34 else 0) else sigE sig

set_option maxRecDepth 100000 in
set_option maxHeartbeats 800000 in
theorem refPlain_any (sv : Value) (sig : List Sy) (w : World) (hs : Sg w sv sig) :
    Calls Tryz.prog 54 #[sv] w fun e w' => e = .returned (.int .i64 (plainE sig)) ∧ Below w.heap.size w w' := by
  obtain ⟨so, sc, rfl, hso, hsc, _⟩ := Row.flat hs
  unfold maxLen at hsc
  have HS := hid hs
  clear hs
  go_enter Tryz.func54, Tryz.ntmps54
  go_wp2_with fail
  refine (refCheckSig_any _ sig w HS.out).mono ?_
  rintro e w1 ⟨rfl, hb1⟩
  have C1 := hid hb1
  clear hb1
  by_cases he : sigE sig = 0
  · rw [he]
    have HMk := hid (sig_marks he)
    by_cases h64 : 64 < sig.length
    · have HF : Hid (plainE sig = 37) := by show _ = _; unfold plainE; rw [if_pos he, if_pos h64]
      have hd : decide ((64 : Int) < (sig.length : Int)) = true := by simpa using (show (64 : Int) < (sig.length : Int) by omega)
      clear he
      go_wp2
      go_ret
      exact ⟨ret1i HF.out.symm, C1.out⟩
    · have HF : Hid (plainE sig = if (sig.any fun s => markB s.1) then 34 else 0) := by show _ = _; unfold plainE; rw [if_pos he, if_neg h64, HMk.out]
      have hd : decide ((64 : Int) < (sig.length : Int)) = false := by simpa using (show ¬ (64 : Int) < (sig.length : Int) by omega)
      clear he
      go_wp2
      go_loopw [4] (fun iv wr => ∃ k : Nat, k ≤ sig.length ∧ iv = .int .i64 k ∧ (sig.take k).any (fun s => markB s.1) = false ∧ Below w.heap.size w wr) (fun iv _ => sig.length - (intOf iv).toNat)
      case atStart => exact ⟨0, Nat.zero_le _, rfl, by simp, C1.out⟩
      case round =>
        obtain ⟨k, hk, rfl, hno, hbl⟩ := hrel
        have HNo := hid hno
        have HB := hid hbl
        clear hno
        by_cases hlt : k < sig.length
        · obtain ⟨g, off, s, a, rfl, hm, hc0, hc1, ha1, ha2, hs3⟩ := (HS.out.kp (Kp.of_below hbl)).at hlt
          have HM := hid hm
          clear hm hbl
          go_wp2_with fail
          refine (refMarked_any s wr hs3).mono ?_
          rintro e w2 ⟨rfl, hb2⟩
          have HB2 := hid (below_step HB.out hb2)
          clear hb2 hc0 hc1
          cases hmk : markB s with
          | true =>
            have HF2 : Hid (plainE sig = 34) := by
              show _ = _
              rw [HF.out, if_pos (List.any_eq_true.2 ⟨_, List.mem_of_getElem? HM.out, hmk⟩)]
            clear hmk
            go_wp2
            go_ret
            exact ⟨ret1i HF2.out.symm, HB2.out⟩
          | false =>
            have HF2 : Hid ((sig.take (k + 1)).any (fun s => markB s.1) = false) := by
              show _ = _
              rw [take_get HM.out, List.any_append, HNo.out]
              simp [hmk]
            clear hmk
            go_wp2
            go_roundw
            case rel => exact ⟨k + 1, by omega, by go_num, HF2.out, HB2.out⟩
            case measure => simp only [intOf]; omega
        · have HF2 : Hid (plainE sig = 0) := by
            have h9 := HNo.out
            rw [List.take_of_length_le (by omega)] at h9
            show _ = _
            rw [HF.out, h9]
            rfl
          go_wp2
          go_ret
          exact ⟨ret1i HF2.out.symm, HB.out⟩
  · have HF : Hid (plainE sig = sigE sig) := by show _ = _; unfold plainE; rw [if_neg he]
    generalize sigE sig = E at he HF ⊢
    have hne : (E != 0) = true := by simpa using he
    go_wp2
    go_ret
    exact ⟨ret1i HF.out.symm, C1.out⟩

set_option maxRecDepth 100000 in
set_option maxHeartbeats 400000 in
theorem refHas_any (v : Value) (xs : List Int) (n : Int) (w : World) (h : Is w v xs) :
    Calls Tryz.prog 79 #[v, .int .i64 n] w fun e w' => e = .returned (.bool (decide (n ∈ xs))) ∧ w' = w := by
  obtain ⟨ao, cap, rfl, hao, hca, _⟩ := Row.flat h
  unfold maxLen at hca
  have HV := hid h
  clear h
  go_enter Tryz.func79, Tryz.ntmps79
  go_wp2
  go_loopw [5] (fun iv wr => ∃ k : Nat, k ≤ xs.length ∧ iv = .int .i64 k ∧ n ∉ xs.take k ∧ wr = w) (fun iv _ => xs.length - (intOf iv).toNat)
  case atStart => exact ⟨0, Nat.zero_le _, rfl, by simp, rfl⟩
  case round =>
    obtain ⟨k, hk, rfl, hno, hw⟩ := hrel
    have hw8 := hw.symm
    subst hw8
    have HNo := hid hno
    clear hw hno
    by_cases hlt : k < xs.length
    · obtain ⟨g, off, x, rfl, hx1, hx2, _, _⟩ := HV.out.at hlt
      have HX := hid hx1
      clear hx1
      by_cases hxn : x = n
      · have hb : (x == n) = true := by rw [beq_iff_eq]; exact hxn
        have HF : Hid (decide (n ∈ xs) = true) := by
          show _ = _
          rw [decide_eq_true_eq, ← hxn]
          exact List.mem_of_getElem? HX.out
        clear hxn
        go_wp2
        go_ret
        exact ⟨ret1b HF.out.symm, rfl⟩
      · have hb : (x == n) = false := by rw [beq_eq_false_iff_ne]; exact hxn
        have HF : Hid (n ∉ xs.take (k + 1)) := by
          rw [take_get HX.out]
          intro h9
          rcases List.mem_append.1 h9 with h9 | h9
          · exact HNo.out h9
          · simp at h9
            exact hxn h9.symm
        clear hxn
        go_wp2
        go_roundw
        case rel => exact ⟨k + 1, by omega, by go_num, HF.out, trivial⟩
        case measure => simp only [intOf]; omega
    · have HF : Hid (decide (n ∈ xs) = false) := by
        have h9 := HNo.out
        rw [List.take_of_length_le (by omega)] at h9
        show _ = _
        rw [decide_eq_false_iff_not]
        exact h9
      go_wp2
      go_ret
      exact ⟨ret1b HF.out.symm, rfl⟩

set_option maxRecDepth 100000 in
set_option maxHeartbeats 1600000 in
theorem refRule_any (sv lv rv : Value) (sig : List Sy) (l r : List Int) (w : World) (hs : Sg w sv sig) (hl : Is w lv l) (hr : Is w rv r) (hse : sigE sig = 0) (h1 : l.length * 8 ≤ 140737488351232) (h2 : r.length * 8 ≤ 140737488351232) :
    Calls Tryz.prog 55 #[sv, .agg #[lv, rv]] w fun e w' => e = .returned (.int .i64 (ruleE sig (l, r))) ∧ Below w.heap.size w w' := by
  obtain ⟨a1, c1, e1, _⟩ := hl.flatI
  subst e1
  obtain ⟨a2, c2, e2, _⟩ := hr.flatI
  subst e2
  have HS := hid hs
  have HL := hid hl
  have HR := hid hr
  have HA := hid (sigE_ok hse)
  have HTl : Hid (termE sig l = rowE sig l) := by show _ = _; unfold termE; rw [if_pos hse]
  have HTr : Hid (termE sig r = rowE sig r) := by show _ = _; unfold termE; rw [if_pos hse]
  clear hs hl hr hse
  obtain ⟨w0, hw0⟩ : ∃ X, X = w.alloc (.cells #[.slice a1 l.length c1, .slice a2 r.length c2] 64) := ⟨_, rfl⟩
  have C0 : Hid (Below w.heap.size w w0) := by rw [hw0]; exact below_alloc _
  have HC : Hid (∀ W, Below w0.heap.size w0 W → W.cell? ⟨w.heap.size, 0, none⟩ = some (.slice a1 l.length c1) ∧ W.cell? ⟨w.heap.size, 1, none⟩ = some (.slice a2 r.length c2)) := fun W hW => by
    have hk := Kp.of_below hW
    rw [hw0] at hk
    exact ⟨hk.cell _ _ (cell_new rfl), hk.cell _ _ (cell_new rfl)⟩
  obtain ⟨E, hE⟩ : ∃ E, E = ruleE sig (l, r) := ⟨_, rfl⟩
  have HE := hid hE
  rw [← hE]
  clear hE
  unfold ruleE at HE
  simp only [HTl.out, HTr.out] at HE
  go_enter Tryz.func55, Tryz.ntmps55
  go_wp2_with fail
  rw [← hw0]
  clear hw0
  refine (refTerm_any sv _ sig l w0 (HS.out.kp (Kp.of_below C0.out)) (HL.out.kp (Kp.of_below C0.out)) HA.out h1).mono ?_
  rintro e w1 ⟨rfl, hw1⟩
  have hw8 := hw1.symm
  subst hw8
  clear hw1
  obtain ⟨x0, x1⟩ := HC.out w0 (Below.refl _ _)
  by_cases hel : rowE sig l = 0
  · rw [hel]
    have HEl := hid hel
    rw [if_pos hel] at HE
    clear hel
    go_wp2_with fail
    refine (refTerm_any sv _ sig r w0 (HS.out.kp (Kp.of_below C0.out)) (HR.out.kp (Kp.of_below C0.out)) HA.out h2).mono ?_
    rintro e w1 ⟨rfl, hw1⟩
    have hw8 := hw1.symm
    subst hw8
    clear hw1
    by_cases her : rowE sig r = 0
    · rw [her]
      rw [if_pos her] at HE
      clear her
      have hlp := row_posS HEl.out
      obtain ⟨gl, ol, c, rfl, hc, hcx, _, _⟩ := (HL.out.kp (Kp.of_below C0.out)).at hlp
      rw [hc] at HE
      simp only [Option.getD_some] at HE
      rw [Nat.add_zero] at hcx
      clear hc
      by_cases hb1 : 512 < l.length
      · have hd1 : decide ((512 : Int) < (l.length : Int)) = true := by simpa using (show (512 : Int) < (l.length : Int) by omega)
        rw [if_pos (.inl hb1)] at HE
        go_wp2
        go_ret
        exact ⟨ret1i HE.out.symm, C0.out⟩
      · have hd1 : decide ((512 : Int) < (l.length : Int)) = false := by simpa using (show ¬ (512 : Int) < (l.length : Int) by omega)
        by_cases hb2 : 512 < r.length
        · have hd2 : decide ((512 : Int) < (r.length : Int)) = true := by simpa using (show (512 : Int) < (r.length : Int) by omega)
          rw [if_pos (.inr hb2)] at HE
          go_wp2
          go_ret
          exact ⟨ret1i HE.out.symm, C0.out⟩
        · have hd2 : decide ((512 : Int) < (r.length : Int)) = false := by simpa using (show ¬ (512 : Int) < (r.length : Int) by omega)
          rw [if_neg (by omega)] at HE
          by_cases h0 : c < 0
          · rw [if_pos h0] at HE
            have hd0 : decide (c < 0) = true := by simpa using h0
            go_wp2
            go_ret
            exact ⟨ret1i HE.out.symm, C0.out⟩
          · rw [if_neg h0] at HE
            have hd0 : decide (c < 0) = false := by simpa using h0
            go_wp2_with fail
            refine (refVars_any _ l w0 (HL.out.kp (Kp.of_below C0.out)) (by omega)).mono ?_
            rintro e w2 ⟨v2, rfl, ho2, hb2⟩
            have C2 := hid (below_step C0.out hb2)
            obtain ⟨y0, y1⟩ := HC.out w2 hb2
            have D2 := hid hb2
            have HV2 := hid ho2.is
            clear hb2 ho2 x0 x1 hcx
            go_wp2_with fail
            refine (refVars_any _ r w2 (HR.out.kp (Kp.of_below C2.out)) (by omega)).mono ?_
            rintro e w3 ⟨v3, rfl, ho3, hb3⟩
            have C3 := hid (below_step C2.out hb3)
            have HV23 := hid (HV2.out.kp (Kp.of_below hb3))
            have HV3 := hid ho3.is
            clear hb3 ho3 y0 y1 HV2
            unfold freeB at HE
            generalize varsL l = VL at HV23 HE
            generalize varsL r = VR at HV3 HE
            obtain ⟨ro, rc, hv3, hrc1, hrc2, _⟩ := HV3.out.flatI
            subst hv3
            go_wp2
            go_loopw [8] (fun iv wr => ∃ k : Nat, k ≤ VR.length ∧ iv = .int .i64 k ∧ (VR.take k).any (fun x => !decide (x ∈ VL)) = false ∧ wr = w3) (fun iv _ => VR.length - (intOf iv).toNat)
            case atStart => exact ⟨0, Nat.zero_le _, rfl, by simp, rfl⟩
            case round =>
              obtain ⟨k, hk, rfl, hno, hw⟩ := hrel
              have hw8 := hw.symm
              subst hw8
              have HNo := hid hno
              clear hw hno
              by_cases hlt : k < VR.length
              · obtain ⟨g, off, x, rfl, hx1, hx2, _, _⟩ := HV3.out.at hlt
                have HX := hid hx1
                clear hx1
                go_wp2_with fail
                refine (refHas_any _ VL x w3 HV23.out).mono ?_
                rintro e w4 ⟨rfl, hw4⟩
                have hw8 := hw4.symm
                subst hw8
                clear hw4
                by_cases hin : x ∈ VL
                · rw [decide_eq_true hin]
                  have HF : Hid ((VR.take (k + 1)).any (fun x => !decide (x ∈ VL)) = false) := by
                    show _ = _
                    rw [take_get HX.out, List.any_append, HNo.out]
                    simp [hin]
                  clear hin
                  go_wp2
                  go_roundw
                  case rel => exact ⟨k + 1, by omega, by go_num, HF.out, trivial⟩
                  case measure => simp only [intOf]; omega
                · rw [decide_eq_false hin]
                  have HF : Hid (E = 72) := by
                    show _ = _
                    rw [HE.out, if_pos (List.any_eq_true.2 ⟨x, List.mem_of_getElem? HX.out, by simpa using hin⟩)]
                  clear hin
                  go_wp2
                  go_ret
                  exact ⟨ret1i HF.out.symm, C3.out⟩
              · have HF : Hid (E = 0) := by
                  have h9 := HNo.out
                  rw [List.take_of_length_le (by omega)] at h9
                  show _ = _
                  rw [HE.out, h9]
                  rfl
                go_wp2
                go_ret
                exact ⟨ret1i HF.out.symm, C3.out⟩
    · rw [if_neg her] at HE
      generalize rowE sig r = T at her HE ⊢
      have hne : (T != 0) = true := by simpa using her
      go_wp2
      go_ret
      exact ⟨ret1i HE.out.symm, C0.out⟩
  · rw [if_neg hel] at HE
    generalize rowE sig l = T at hel HE ⊢
    have hne : (T != 0) = true := by simpa using hel
    go_wp2
    go_ret
    exact ⟨ret1i HE.out.symm, C0.out⟩

end Go.Proofs.YtgpbnbmjgcchfaaGreatDoor

/- The document's Check and Right of layer 7 walked. -/
namespace Go.Proofs.YtgpbnbmjgcchfaaGreatDoor
open Go.RowKit Go.Maps Go.BigFrame

theorem ahead_plain {sig : List Sy} {n : Nat} : aheadE sig n = if plainE sig = 0 then (if 64 < n then 70 else 0) else plainE sig := by
  unfold aheadE plainE
  by_cases h1 : sigE sig = 0
  · rw [if_pos h1, if_pos h1]
    by_cases h2 : 64 < sig.length
    · rw [if_pos h2, if_pos h2, if_neg (by decide)]
    · rw [if_neg h2, if_neg h2]
      cases h3 : (sig.any fun s => sufB s.1) with
      | true => simp
      | false => simp
  · rw [if_neg h1, if_neg h1, if_neg h1]

theorem plain_sig {sig : List Sy} (h : plainE sig = 0) : sigE sig = 0 := by
  unfold plainE at h
  by_cases h1 : sigE sig = 0
  · exact h1
  · rw [if_neg h1] at h
    exact h

set_option maxRecDepth 100000 in
set_option maxHeartbeats 1600000 in
theorem refSysCheck_any (sv rv : Value) (sig : List Sy) (rs : List Rl) (w : World) (hs : Sg w sv sig) (hr : RU w rv rs) :
    Calls Tryz.prog 27 #[.agg #[sv, rv]] w fun e w' => e = .returned (.tuple #[.int .i64 (sysE sig rs).1, .int .i64 (sysE sig rs).2]) ∧ Below w.heap.size w w' := by
  obtain ⟨so, sc, rfl, hso, hsc, _⟩ := Row.flat hs
  obtain ⟨ro, rc, rfl, hro, hrc, _⟩ := Row.flat hr
  unfold maxLen at hsc hrc
  have HS := hid hs
  have HR := hid hr
  clear hs hr
  obtain ⟨w0, hw0⟩ : ∃ X, X = w.alloc (.cells #[.slice so sig.length sc, .slice ro rs.length rc] 25) := ⟨_, rfl⟩
  have C0 : Hid (Below w.heap.size w w0) := by rw [hw0]; exact below_alloc _
  have HC : Hid (∀ W, Below w0.heap.size w0 W → W.cell? ⟨w.heap.size, 0, none⟩ = some (.slice so sig.length sc) ∧ W.cell? ⟨w.heap.size, 1, none⟩ = some (.slice ro rs.length rc)) := fun W hW => by
    have hk := Kp.of_below hW
    rw [hw0] at hk
    exact ⟨hk.cell _ _ (cell_new rfl), hk.cell _ _ (cell_new rfl)⟩
  obtain ⟨E, hE⟩ : ∃ E, E = sysE sig rs := ⟨_, rfl⟩
  have HE := hid hE
  rw [← hE]
  clear hE
  unfold sysE at HE
  rw [ahead_plain] at HE
  obtain ⟨x0, x1⟩ := HC.out w0 (Below.refl _ _)
  go_enter Tryz.func27, Tryz.ntmps27
  go_wp2_with fail
  rw [← hw0]
  clear hw0
  refine (refPlain_any _ sig w0 (HS.out.kp (Kp.of_below C0.out))).mono ?_
  rintro e w1 ⟨rfl, hb1⟩
  have C1 := hid (below_step C0.out hb1)
  have D1 := hid hb1
  clear hb1 x0 x1
  by_cases hea : plainE sig = 0
  · rw [hea]
    rw [if_pos hea] at HE
    have HSe := hid (plain_sig hea)
    clear hea
    obtain ⟨x0, x1⟩ := HC.out w1 D1.out
    by_cases h64 : 64 < rs.length
    · have hd : decide ((64 : Int) < (rs.length : Int)) = true := by simpa using (show (64 : Int) < (rs.length : Int) by omega)
      rw [if_pos h64, if_neg (by decide)] at HE
      go_wp2
      go_ret2
      exact ⟨ret2ii (a := 70) (c := -1) (by rw [HE.out]), C1.out⟩
    · have hd : decide ((64 : Int) < (rs.length : Int)) = false := by simpa using (show ¬ (64 : Int) < (rs.length : Int) by omega)
      rw [if_neg h64, if_pos rfl] at HE
      go_wp2
      go_loopw [5] (fun iv wr => ∃ k : Nat, k ≤ rs.length ∧ iv = .int .i64 k ∧ rulesGo sig 0 rs = rulesGo sig k (rs.drop k) ∧ Below w0.heap.size w0 wr) (fun iv _ => rs.length - (intOf iv).toNat)
      case atStart => exact ⟨0, Nat.zero_le _, rfl, rfl, D1.out⟩
      case round =>
        obtain ⟨k, hk, rfl, hgo, hbl⟩ := hrel
        have HG := hid hgo
        have HB := hid hbl
        have CB := hid (below_step C0.out hbl)
        obtain ⟨z0, z1⟩ := HC.out wr hbl
        clear hgo hbl x0 x1
        by_cases hlt : k < rs.length
        · obtain ⟨g, off, l, r, a1, c1, a2, c2, rfl, hm, hc0, hc1, hi1, hi2, hl1, hl2⟩ := (HR.out.kp (Kp.of_below CB.out)).at hlt
          have HD : Hid (E = if ruleE sig (l, r) = 0 then rulesGo sig (k + 1) (rs.drop (k + 1)) else (ruleE sig (l, r), (k : Int))) := by
            show _ = _
            rw [HE.out, HG.out, drop_get hm]
            rfl
          have HCl : Hid (∀ W, Below wr.heap.size wr W → Calls Tryz.prog 55 #[.slice so sig.length sc, .agg #[.slice a1 l.length c1, .slice a2 r.length c2]] W fun e w' => e = .returned (.int .i64 (ruleE sig (l, r))) ∧ Below W.heap.size W w') := fun W hW =>
            refRule_any _ _ _ sig l r W (HS.out.kp (Kp.of_below (below_step CB.out hW))) (hi1.kp (Kp.of_below hW)) (hi2.kp (Kp.of_below hW)) HSe.out hl1 hl2
          obtain ⟨R, hR⟩ : ∃ R, R = ruleE sig (l, r) := ⟨_, rfl⟩
          rw [← hR] at HD HCl
          clear hR hm hi1 hi2
          go_wp2_with fail
          refine region_below (by kernel_rfl) (by kernel_rfl) ?_
          go_big_quiet_want
          refine ⟨.pointer (some ⟨w.heap.size, 0, none⟩), fun w' hw' => ?_, ?_⟩
          · unfold Oper.quietAt; go_simp
          simp only [Act.put, List.setIfInBounds_toArray, List.set_cons_zero, List.set_cons_succ]
          go_big_quiet_on
          go_big_quiet_want
          refine ⟨.slice so sig.length sc, fun w' hw' => ?_, ?_⟩
          · have hh0 := (Kp.of_below hw').cell _ _ z0; unfold Oper.quietAt; go_simp
          simp only [Act.put, List.setIfInBounds_toArray, List.set_cons_zero, List.set_cons_succ]
          go_big_quiet_on
          go_big_quiet_want
          refine ⟨.pointer (some ⟨w.heap.size, 1, none⟩), fun w' hw' => ?_, ?_⟩
          · unfold Oper.quietAt; go_simp
          simp only [Act.put, List.setIfInBounds_toArray, List.set_cons_zero, List.set_cons_succ]
          go_big_quiet_on
          go_big_quiet_want
          refine ⟨.slice (some ⟨g, off, none⟩) rs.length rc, fun w' hw' => ?_, ?_⟩
          · have hh0 := (Kp.of_below hw').cell _ _ z1; unfold Oper.quietAt; go_simp
          simp only [Act.put, List.setIfInBounds_toArray, List.set_cons_zero, List.set_cons_succ]
          go_big_quiet_on
          (go_big_quiet_want; go_big_quiet_op; go_big_quiet_on)
          go_big_quiet_want
          refine ⟨.pointer (some ⟨g, off + k * 2, none⟩), fun w' hw' => ?_, ?_⟩
          · unfold Oper.quietAt; go_simp
          simp only [Act.put, List.setIfInBounds_toArray, List.set_cons_zero, List.set_cons_succ]
          go_big_quiet_on
          go_big_quiet_want
          refine ⟨.agg #[.slice a1 l.length c1, .slice a2 r.length c2], fun w' hw' => ?_, ?_⟩
          · have hh0 := (Kp.of_below hw').cell _ _ hc0; have hh1 := (Kp.of_below hw').cell _ _ hc1; unfold Oper.quietAt; go_simp
          simp only [Act.put, List.setIfInBounds_toArray, List.set_cons_zero, List.set_cons_succ]
          go_big_quiet_on
          go_big_quiet_want
          refine ⟨.int .i64 R, fun w' hw' => ?_, ?_⟩
          · unfold Oper.quietAt; go_simp; exact (HCl.out w' hw').mono (fun e w2 ⟨he, hb⟩ => ⟨he, below_step hw' hb⟩)
          simp only [Act.put, List.setIfInBounds_toArray, List.set_cons_zero, List.set_cons_succ]
          go_big_quiet_on
          (go_big_quiet_want; go_big_quiet_op; go_big_quiet_on)
          refine wpQuiet_nil ?_
          intro w3 hb3
          have HB3 := hid (below_step HB.out hb3)
          clear hb3 z0 z1 hc0 hc1 HCl
          by_cases her : R = 0
          · have HN : Hid (rulesGo sig 0 rs = rulesGo sig (k + 1) (rs.drop (k + 1))) := by
              show _ = _
              rw [← HE.out, HD.out, if_pos her]
            rw [her]
            clear her HD
            go_wp2
            go_roundw
            case rel => exact ⟨k + 1, hlt, by go_num, HN.out, HB3.out⟩
            case measure => simp only [intOf]; omega
          · have HN : Hid (E = (R, (k : Int))) := by
              show _ = _
              rw [HD.out, if_neg her]
            have hne : (R != 0) = true := by simpa using her
            clear HD her
            go_wp2
            go_ret2
            exact ⟨ret2ii (a := R) (c := (k : Int)) (by rw [HN.out]), below_step C0.out HB3.out⟩
        · have HN : Hid (E = (0, 0)) := by
            show _ = _
            rw [HE.out, HG.out, List.drop_of_length_le (by omega)]
            rfl
          go_wp2
          go_ret2
          exact ⟨ret2ii (a := 0) (c := 0) (by rw [HN.out]), CB.out⟩
  · rw [if_neg hea, if_neg hea] at HE
    generalize plainE sig = P at hea HE ⊢
    have hne : (P != 0) = true := by simpa using hea
    go_wp2
    go_ret2
    exact ⟨ret2ii (a := P) (c := -1) (by rw [HE.out]), C1.out⟩

set_option maxRecDepth 100000 in
theorem refRight_any (sv rv : Value) (sig : List Sy) (rs : List Rl) (w : World) (hs : Sg w sv sig) (hr : RU w rv rs) :
    Calls Tryz.prog 17 #[.agg #[sv, rv]] w fun e w' => e = .returned (.bool (sysB sig rs)) ∧ Below w.heap.size w w' := by
  obtain ⟨so, sc, rfl, hso, hsc, _⟩ := Row.flat hs
  obtain ⟨ro, rc, rfl, hro, hrc, _⟩ := Row.flat hr
  have HS := hid hs
  have HR := hid hr
  clear hs hr
  obtain ⟨w0, hw0⟩ : ∃ X, X = w.alloc (.cells #[.slice so sig.length sc, .slice ro rs.length rc] 25) := ⟨_, rfl⟩
  have C0 : Hid (Below w.heap.size w w0) := by rw [hw0]; exact below_alloc _
  go_enter Tryz.func17, Tryz.ntmps17
  go_wp2_with fail
  rw [← hw0]
  clear hw0
  refine (refSysCheck_any _ _ sig rs w0 (HS.out.kp (Kp.of_below C0.out)) (HR.out.kp (Kp.of_below C0.out))).mono ?_
  rintro e w1 ⟨rfl, hb1⟩
  have C1 := hid (below_step C0.out hb1)
  clear hb1
  obtain ⟨E, hE⟩ : ∃ E, E = sysE sig rs := ⟨_, rfl⟩
  have HB : Hid (sysB sig rs = decide (E.1 = 0)) := by rw [hE]; rfl
  rw [← hE]
  clear hE
  by_cases h0 : E.1 = 0
  · have hb : (E.1 == 0) = true := by rw [beq_iff_eq]; exact h0
    have HB2 : Hid (sysB sig rs = true) := by show _ = _; rw [HB.out, decide_eq_true h0]
    clear h0 HB
    go_wp2
    go_ret
    exact ⟨ret1b HB2.out.symm, C1.out⟩
  · have hb : (E.1 == 0) = false := by rw [beq_eq_false_iff_ne]; exact h0
    have HB2 : Hid (sysB sig rs = false) := by show _ = _; rw [HB.out, decide_eq_false h0]
    clear h0 HB
    go_wp2
    go_ret
    exact ⟨ret1b HB2.out.symm, C1.out⟩

end Go.Proofs.YtgpbnbmjgcchfaaGreatDoor
