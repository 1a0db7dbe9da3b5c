/- Texts of the proof, one behind the other. -/
import Derived.Test.YtoapgbaibpkckaaGreatDoorOwn5
import Derived.Test.YtoapgbaibpkckaaGreatDoorOwn3
import Derived.Deep.LoopGhost
import Derived.Test.YtoapgbaibpkckaaGreatDoorOwn4
import Derived.Test.YtoapgbaibpkckaaGreatDoorOwn2
import Derived.Test.YtoapgbaibpkckaaGreatDoorOwn1
import Derived.Lib.AppendZeros
/- The document's Check and Right of layer 7 walked. -/
namespace Go.Proofs.YtoapgbaibpkckaaGreatDoor
open Go.RowKit Go.Maps Go.BigFrame

theorem ahead_plain {sig : List Sy} {n : Nat} : aheadE sig n = if plainE sig = 0 then (if 64 < n then 70 else 0) else plainE sig := by
  unfold aheadE plainE
  by_cases h1 : sigE sig = 0
  · rw [if_pos h1, if_pos h1]
    by_cases h2 : 64 < sig.length
    · rw [if_pos h2, if_pos h2, if_neg (by decide)]
    · rw [if_neg h2, if_neg h2]
      cases h3 : (sig.any fun s => sufB s.1) with
      | true => simp
      | false => simp
  · rw [if_neg h1, if_neg h1, if_neg h1]

theorem plain_sig {sig : List Sy} (h : plainE sig = 0) : sigE sig = 0 := by
  unfold plainE at h
  by_cases h1 : sigE sig = 0
  · exact h1
  · rw [if_neg h1] at h
    exact h

set_option maxRecDepth 100000 in
set_option maxHeartbeats 1600000 in
theorem refSysCheck_any (sv rv : Value) (sig : List Sy) (rs : List Rl) (w : World) (hs : Sg w sv sig) (hr : RU w rv rs) :
    Calls Tryz.prog 33 #[.agg #[sv, rv]] w fun e w' => e = .returned (.tuple #[.int .i64 (sysE sig rs).1, .int .i64 (sysE sig rs).2]) ∧ Below w.heap.size w w' := by
  obtain ⟨so, sc, rfl, hso, hsc, _⟩ := Row.flat hs
  obtain ⟨ro, rc, rfl, hro, hrc, _⟩ := Row.flat hr
  unfold maxLen at hsc hrc
  have HS := hid hs
  have HR := hid hr
  clear hs hr
  obtain ⟨w0, hw0⟩ : ∃ X, X = w.alloc (.cells #[.slice so sig.length sc, .slice ro rs.length rc] 32) := ⟨_, rfl⟩
  have C0 : Hid (Below w.heap.size w w0) := by rw [hw0]; exact below_alloc _
  have HC : Hid (∀ W, Below w0.heap.size w0 W → W.cell? ⟨w.heap.size, 0, none⟩ = some (.slice so sig.length sc) ∧ W.cell? ⟨w.heap.size, 1, none⟩ = some (.slice ro rs.length rc)) := fun W hW => by
    have hk := Kp.of_below hW
    rw [hw0] at hk
    exact ⟨hk.cell _ _ (cell_new rfl), hk.cell _ _ (cell_new rfl)⟩
  obtain ⟨E, hE⟩ : ∃ E, E = sysE sig rs := ⟨_, rfl⟩
  have HE := hid hE
  rw [← hE]
  clear hE
  unfold sysE at HE
  rw [ahead_plain] at HE
  obtain ⟨x0, x1⟩ := HC.out w0 (Below.refl _ _)
  go_enter Tryz.func33, Tryz.ntmps33
  go_wp2_with fail
  rw [← hw0]
  clear hw0
  refine (refPlain_any _ sig w0 (HS.out.kp (Kp.of_below C0.out))).mono ?_
  rintro e w1 ⟨rfl, hb1⟩
  have C1 := hid (below_step C0.out hb1)
  have D1 := hid hb1
  clear hb1 x0 x1
  by_cases hea : plainE sig = 0
  · rw [hea]
    rw [if_pos hea] at HE
    have HSe := hid (plain_sig hea)
    clear hea
    obtain ⟨x0, x1⟩ := HC.out w1 D1.out
    by_cases h64 : 64 < rs.length
    · have hd : decide ((64 : Int) < (rs.length : Int)) = true := by simpa using (show (64 : Int) < (rs.length : Int) by omega)
      rw [if_pos h64, if_neg (by decide)] at HE
      go_wp2
      go_ret2
      exact ⟨ret2ii (a := 70) (c := -1) (by rw [HE.out]), C1.out⟩
    · have hd : decide ((64 : Int) < (rs.length : Int)) = false := by simpa using (show ¬ (64 : Int) < (rs.length : Int) by omega)
      rw [if_neg h64, if_pos rfl] at HE
      go_wp2
      go_loopw [5] (fun iv wr => ∃ k : Nat, k ≤ rs.length ∧ iv = .int .i64 k ∧ rulesGo sig 0 rs = rulesGo sig k (rs.drop k) ∧ Below w0.heap.size w0 wr) (fun iv _ => rs.length - (intOf iv).toNat)
      case atStart => exact ⟨0, Nat.zero_le _, rfl, rfl, D1.out⟩
      case round =>
        obtain ⟨k, hk, rfl, hgo, hbl⟩ := hrel
        have HG := hid hgo
        have HB := hid hbl
        have CB := hid (below_step C0.out hbl)
        obtain ⟨z0, z1⟩ := HC.out wr hbl
        clear hgo hbl x0 x1
        by_cases hlt : k < rs.length
        · obtain ⟨g, off, l, r, a1, c1, a2, c2, rfl, hm, hc0, hc1, hi1, hi2, hl1, hl2⟩ := (HR.out.kp (Kp.of_below CB.out)).at hlt
          have HD : Hid (E = if ruleE sig (l, r) = 0 then rulesGo sig (k + 1) (rs.drop (k + 1)) else (ruleE sig (l, r), (k : Int))) := by
            show _ = _
            rw [HE.out, HG.out, drop_get hm]
            rfl
          have HCl : Hid (∀ W, Below wr.heap.size wr W → Calls Tryz.prog 62 #[.slice so sig.length sc, .agg #[.slice a1 l.length c1, .slice a2 r.length c2]] W fun e w' => e = .returned (.int .i64 (ruleE sig (l, r))) ∧ Below W.heap.size W w') := fun W hW =>
            refRule_any _ _ _ sig l r W (HS.out.kp (Kp.of_below (below_step CB.out hW))) (hi1.kp (Kp.of_below hW)) (hi2.kp (Kp.of_below hW)) HSe.out hl1 hl2
          obtain ⟨R, hR⟩ : ∃ R, R = ruleE sig (l, r) := ⟨_, rfl⟩
          rw [← hR] at HD HCl
          clear hR hm hi1 hi2
          go_wp2_with fail
          refine region_below (by kernel_rfl) (by kernel_rfl) ?_
          go_big_quiet_want
          refine ⟨.pointer (some ⟨w.heap.size, 0, none⟩), fun w' hw' => ?_, ?_⟩
          · unfold Oper.quietAt; go_simp
          simp only [Act.put, List.setIfInBounds_toArray, List.set_cons_zero, List.set_cons_succ]
          go_big_quiet_on
          go_big_quiet_want
          refine ⟨.slice so sig.length sc, fun w' hw' => ?_, ?_⟩
          · have hh0 := (Kp.of_below hw').cell _ _ z0; unfold Oper.quietAt; go_simp
          simp only [Act.put, List.setIfInBounds_toArray, List.set_cons_zero, List.set_cons_succ]
          go_big_quiet_on
          go_big_quiet_want
          refine ⟨.pointer (some ⟨w.heap.size, 1, none⟩), fun w' hw' => ?_, ?_⟩
          · unfold Oper.quietAt; go_simp
          simp only [Act.put, List.setIfInBounds_toArray, List.set_cons_zero, List.set_cons_succ]
          go_big_quiet_on
          go_big_quiet_want
          refine ⟨.slice (some ⟨g, off, none⟩) rs.length rc, fun w' hw' => ?_, ?_⟩
          · have hh0 := (Kp.of_below hw').cell _ _ z1; unfold Oper.quietAt; go_simp
          simp only [Act.put, List.setIfInBounds_toArray, List.set_cons_zero, List.set_cons_succ]
          go_big_quiet_on
          (go_big_quiet_want; go_big_quiet_op; go_big_quiet_on)
          go_big_quiet_want
          refine ⟨.pointer (some ⟨g, off + k * 2, none⟩), fun w' hw' => ?_, ?_⟩
          · unfold Oper.quietAt; go_simp
          simp only [Act.put, List.setIfInBounds_toArray, List.set_cons_zero, List.set_cons_succ]
          go_big_quiet_on
          go_big_quiet_want
          refine ⟨.agg #[.slice a1 l.length c1, .slice a2 r.length c2], fun w' hw' => ?_, ?_⟩
          · have hh0 := (Kp.of_below hw').cell _ _ hc0; have hh1 := (Kp.of_below hw').cell _ _ hc1; unfold Oper.quietAt; go_simp
          simp only [Act.put, List.setIfInBounds_toArray, List.set_cons_zero, List.set_cons_succ]
          go_big_quiet_on
          go_big_quiet_want
          refine ⟨.int .i64 R, fun w' hw' => ?_, ?_⟩
          · unfold Oper.quietAt; go_simp; exact (HCl.out w' hw').mono (fun e w2 ⟨he, hb⟩ => ⟨he, below_step hw' hb⟩)
          simp only [Act.put, List.setIfInBounds_toArray, List.set_cons_zero, List.set_cons_succ]
          go_big_quiet_on
          (go_big_quiet_want; go_big_quiet_op; go_big_quiet_on)
          refine wpQuiet_nil ?_
          intro w3 hb3
          have HB3 := hid (below_step HB.out hb3)
          clear hb3 z0 z1 hc0 hc1 HCl
          by_cases her : R = 0
          · have HN : Hid (rulesGo sig 0 rs = rulesGo sig (k + 1) (rs.drop (k + 1))) := by
              show _ = _
              rw [← HE.out, HD.out, if_pos her]
            rw [her]
            clear her HD
            go_wp2
            go_roundw
            case rel => exact ⟨k + 1, hlt, by go_num, HN.out, HB3.out⟩
            case measure => simp only [intOf]; omega
          · have HN : Hid (E = (R, (k : Int))) := by
              show _ = _
              rw [HD.out, if_neg her]
            have hne : (R != 0) = true := by simpa using her
            clear HD her
            go_wp2
            go_ret2
            exact ⟨ret2ii (a := R) (c := (k : Int)) (by rw [HN.out]), below_step C0.out HB3.out⟩
        · have HN : Hid (E = (0, 0)) := by
            show _ = _
            rw [HE.out, HG.out, List.drop_of_length_le (by omega)]
            rfl
          go_wp2
          go_ret2
          exact ⟨ret2ii (a := 0) (c := 0) (by rw [HN.out]), CB.out⟩
  · rw [if_neg hea, if_neg hea] at HE
    generalize plainE sig = P at hea HE ⊢
    have hne : (P != 0) = true := by simpa using hea
    go_wp2
    go_ret2
    exact ⟨ret2ii (a := P) (c := -1) (by rw [HE.out]), C1.out⟩

set_option maxRecDepth 100000 in
theorem refRight_any (sv rv : Value) (sig : List Sy) (rs : List Rl) (w : World) (hs : Sg w sv sig) (hr : RU w rv rs) :
    Calls Tryz.prog 24 #[.agg #[sv, rv]] w fun e w' => e = .returned (.bool (sysB sig rs)) ∧ Below w.heap.size w w' := by
  obtain ⟨so, sc, rfl, hso, hsc, _⟩ := Row.flat hs
  obtain ⟨ro, rc, rfl, hro, hrc, _⟩ := Row.flat hr
  have HS := hid hs
  have HR := hid hr
  clear hs hr
  obtain ⟨w0, hw0⟩ : ∃ X, X = w.alloc (.cells #[.slice so sig.length sc, .slice ro rs.length rc] 32) := ⟨_, rfl⟩
  have C0 : Hid (Below w.heap.size w w0) := by rw [hw0]; exact below_alloc _
  go_enter Tryz.func24, Tryz.ntmps24
  go_wp2_with fail
  rw [← hw0]
  clear hw0
  refine (refSysCheck_any _ _ sig rs w0 (HS.out.kp (Kp.of_below C0.out)) (HR.out.kp (Kp.of_below C0.out))).mono ?_
  rintro e w1 ⟨rfl, hb1⟩
  have C1 := hid (below_step C0.out hb1)
  clear hb1
  obtain ⟨E, hE⟩ : ∃ E, E = sysE sig rs := ⟨_, rfl⟩
  have HB : Hid (sysB sig rs = decide (E.1 = 0)) := by rw [hE]; rfl
  rw [← hE]
  clear hE
  by_cases h0 : E.1 = 0
  · have hb : (E.1 == 0) = true := by rw [beq_iff_eq]; exact h0
    have HB2 : Hid (sysB sig rs = true) := by show _ = _; rw [HB.out, decide_eq_true h0]
    clear h0 HB
    go_wp2
    go_ret
    exact ⟨ret1b HB2.out.symm, C1.out⟩
  · have hb : (E.1 == 0) = false := by rw [beq_eq_false_iff_ne]; exact h0
    have HB2 : Hid (sysB sig rs = false) := by show _ = _; rw [HB.out, decide_eq_false h0]
    clear h0 HB
    go_wp2
    go_ret
    exact ⟨ret1b HB2.out.symm, C1.out⟩

end Go.Proofs.YtoapgbaibpkckaaGreatDoor

/- The example's system. -/
namespace Go.Proofs.YtoapgbaibpkckaaGreatDoor
open Go.RowKit Go.Maps Go.BigFrame

/-- The example's system lies in the blocks from B on. -/
structure AddsAt (W : World) (B : Nat) : Prop where
  size : B + 7 ≤ W.heap.size
  sig : Sg W (.slice (some ⟨B + 1, 0, none⟩) 3 3) sumS
  l0 : Is W (.slice (some ⟨B + 2, 0, none⟩) 3 3) [2, 0, -2]
  r0 : Is W (.slice (some ⟨B + 3, 0, none⟩) 1 1) [-2]
  l1 : Is W (.slice (some ⟨B + 4, 0, none⟩) 4 4) [2, 1, -1, -2]
  r1 : Is W (.slice (some ⟨B + 5, 0, none⟩) 4 4) [1, 2, -1, -2]

theorem heap_newg {w : World} {o : Obj} {g : Nat} (h : g = w.heap.size) : (w.alloc o).heap[g]? = some o := by
  subst h
  exact heap_alloc_new _ _

/-- What its rules' block holds. -/
def AddsR (W : World) (B : Nat) : Prop := W.heap[B + 6]? = some (.cells #[.slice (some ⟨B + 2, 0, none⟩) 3 3, .slice (some ⟨B + 3, 0, none⟩) 1 1, .slice (some ⟨B + 4, 0, none⟩) 4 4, .slice (some ⟨B + 5, 0, none⟩) 4 4] 38)

end Go.Proofs.YtoapgbaibpkckaaGreatDoor

/- The examples of layer 7, plainly, and rules in a block of their own. -/
namespace Go.Proofs.YtoapgbaibpkckaaGreatDoor
open Go.RowKit Go.Maps Go.BigFrame

def addR0 : Rl := ([2, 0, -2], [-2])
def addR1 : Rl := ([2, 1, -1, -2], [1, 2, -1, -2])
def addR2 : Rl := ([2, 1, -1, -2], [-3])

theorem sh7_check : sysE sumS [addR0, addR1] = (0, 0) := by kernel_rfl
theorem sh7_bad : sysE sumS [addR2, addR0] = (72, 0) := by kernel_rfl
theorem sh7_same : sameB sumS [addR0, addR1] sumS [addR1, addR0] = true := by kernel_rfl
theorem sh7_other : sameB sumS [addR0, addR1] sumS [addR2, addR0] = false := by kernel_rfl
theorem sh7_defined : definedL sumS [addR0, addR1] = [2] := by
  have h1 : sysB sumS [addR0, addR1] = true := by kernel_rfl
  have h2 : rootsL [addR0, addR1] = [2, 2] := by kernel_rfl
  have h3 : sortI [2, 2] = [2, 2] := by
    unfold sortI
    exact List.mergeSort_of_pairwise (by simp)
  have h4 : Lib.compact [(2 : Int), 2] = [2] := by decide
  unfold definedL
  rw [h1, h2, h3, h4]
  rfl

/-- Two rules in a block. -/
theorem ru_lit2 {W : World} {g : Nat} {a0 a1 a2 a3 : Option Addr} {n0 n1 n2 n3 c0 c1 c2 c3 : Nat} {p q r s : List Int} (h0 : W.cell? ⟨g, 0, none⟩ = some (.slice a0 n0 c0)) (h1 : W.cell? ⟨g, 1, none⟩ = some (.slice a1 n1 c1)) (h2 : W.cell? ⟨g, 2, none⟩ = some (.slice a2 n2 c2)) (h3 : W.cell? ⟨g, 3, none⟩ = some (.slice a3 n3 c3))
    (i0 : Is W (.slice a0 n0 c0) p) (i1 : Is W (.slice a1 n1 c1) q) (i2 : Is W (.slice a2 n2 c2) r) (i3 : Is W (.slice a3 n3 c3) s) (l0 : p.length ≤ 99) (l1 : q.length ≤ 99) (l2 : r.length ≤ 99) (l3 : s.length ≤ 99) : RU W (.slice (some ⟨g, 0, none⟩) 2 2) [(p, q), (r, s)] := by
  refine ⟨some ⟨g, 0, none⟩, 2, rfl, Nat.le_refl _, by unfold maxLen; omega, fun _ => ⟨g, 0, rfl, World.block_lt_of_cell? _ _ h0, fun k x hk => ?_⟩⟩
  match k, hk with
  | 0, hk =>
    cases hk
    exact ⟨by simp only; omega, by simp only; omega, _, _, h0, h1, i0, i1⟩
  | 1, hk =>
    cases hk
    exact ⟨by simp only; omega, by simp only; omega, _, _, h2, h3, i2, i3⟩
  | k + 2, hk => simp at hk

end Go.Proofs.YtoapgbaibpkckaaGreatDoor

/- The examples of layer 7 come out true. -/
namespace Go.Proofs.YtoapgbaibpkckaaGreatDoor
open Go.RowKit Go.Maps Go.BigFrame

theorem AddsR.cells {W : World} {B : Nat} (h : AddsR W B) : W.cell? ⟨B + 6, 0, none⟩ = some (.slice (some ⟨B + 2, 0, none⟩) 3 3) ∧ W.cell? ⟨B + 6, 1, none⟩ = some (.slice (some ⟨B + 3, 0, none⟩) 1 1) ∧ W.cell? ⟨B + 6, 2, none⟩ = some (.slice (some ⟨B + 4, 0, none⟩) 4 4) ∧ W.cell? ⟨B + 6, 3, none⟩ = some (.slice (some ⟨B + 5, 0, none⟩) 4 4) := by
  unfold AddsR at h
  exact ⟨cell_of_row _ _ _ _ _ _ h, cell_of_row _ _ _ _ _ _ h, cell_of_row _ _ _ _ _ _ h, cell_of_row _ _ _ _ _ _ h⟩

theorem adds_ru {W : World} {B : Nat} (h : AddsAt W B) (hr : AddsR W B) : RU W (.slice (some ⟨B + 6, 0, none⟩) 2 2) [addR0, addR1] := by
  obtain ⟨h0, h1, h2, h3⟩ := hr.cells
  exact ru_lit2 h0 h1 h2 h3 h.l0 h.r0 h.l1 h.r1 (by decide) (by decide) (by decide) (by decide)

end Go.Proofs.YtoapgbaibpkckaaGreatDoor

/- Rows of one's own whose elements have two cells. -/
namespace Go.Proofs.YtoapgbaibpkckaaGreatDoor
open Go.RowKit Go.Maps Go.BigFrame

theorem prC_in {xs : List (Value × Value)} {u : Value} (h : u ∈ prC xs) : ∃ p ∈ xs, u = p.1 ∨ u = p.2 := by
  unfold prC at h
  rw [List.mem_flatMap] at h
  obtain ⟨p, hp, hu⟩ := h
  simp only [List.mem_cons, List.not_mem_nil, or_false] at hu
  exact ⟨p, hp, hu⟩

/-- Which of two cells. -/
theorem prC_get {xs : List (Value × Value)} {j : Nat} {u : Value} (h : (prC xs)[j]? = some u) : ∃ p, xs[j / 2]? = some p ∧ ((j = j / 2 * 2 ∧ u = p.1) ∨ (j = j / 2 * 2 + 1 ∧ u = p.2)) := by
  have hl := (List.getElem?_eq_some_iff.1 h).1
  rw [prC_len] at hl
  have hp : xs[j / 2]? = some xs[j / 2] := List.getElem?_eq_getElem (by omega)
  obtain ⟨h1, h2⟩ := prC_at xs (j / 2) _ hp
  rcases Nat.mod_two_eq_zero_or_one j with h9 | h9
  · have e : j / 2 * 2 = j := by omega
    rw [e, h] at h1
    exact ⟨_, hp, .inl ⟨e.symm, Option.some.inj h1⟩⟩
  · have e : j / 2 * 2 + 1 = j := by omega
    rw [e, h] at h2
    exact ⟨_, hp, .inr ⟨e.symm, Option.some.inj h2⟩⟩

end Go.Proofs.YtoapgbaibpkckaaGreatDoor

/- An empty row of one's own. -/
namespace Go.Proofs.YtoapgbaibpkckaaGreatDoor
open Go.RowKit Go.Maps

theorem empty_row2 {w : World} {base : Nat} (t : TypeId) (hb : base ≤ w.heap.size) : (w.alloc (.cells #[] t)).ownsRow base t 2 (.slice (some ⟨w.heap.size, 0, none⟩) 0 0) 0 [] := by
  refine ⟨rfl, .inr ⟨w.heap.size, 0, #[], rfl, hb, heap_alloc_new _ _, Nat.le_refl _, Nat.zero_le _, rfl, rfl⟩⟩

end Go.Proofs.YtoapgbaibpkckaaGreatDoor

/- A signature copied; rules of one's own whose rows may be new. -/
namespace Go.Proofs.YtoapgbaibpkckaaGreatDoor
open Go.RowKit Go.Maps Go.BigFrame

theorem info_sym : (Tryz.prog.info? 28).map (fun i => (i.zero, i.size, i.bytes)) = some (some (.agg #[.string ByteArray.empty, .int .i64 0]), 2, 24) := by kernel_rfl
theorem under_syms : Tryz.prog.underlying 22 = some (.slice 28) := by kernel_rfl

def symV (s : Sy) : Value × Value := (.string s.1, .int .i64 s.2)

end Go.Proofs.YtoapgbaibpkckaaGreatDoor

/- Symbols of one's own in memory; an extended signature, plainly. -/
namespace Go.Proofs.YtoapgbaibpkckaaGreatDoor
open Go.RowKit Go.Maps Go.BigFrame

/-- A symbol that is in bounds. -/
def SyOk (s : Sy) : Prop := -9223372036854775808 ≤ s.2 ∧ s.2 ≤ 9223372036854775807 ∧ s.1.size ≤ maxLen

/-- A row of symbols of one's own. -/
def OS (w : World) (base : Nat) (v : Value) (d : List Sy) : Prop := (∀ s ∈ d, SyOk s) ∧ w.ownsRow base 28 2 v d.length (prC (d.map symV))

theorem OS.sg {w : World} {base : Nat} {v : Value} {d : List Sy} (h : OS w base v d) : Sg w v d := by
  have h2 := h.2
  rcases h2.2 with ⟨rfl, hn⟩ | ⟨g, cap, cur, rfl, hb, hg, hc, hm, hs, ht⟩
  · obtain rfl : d = [] := List.eq_nil_of_length_eq_zero hn
    exact Row.nil (by simp [maxLen])
  · refine ⟨_, cap, rfl, hc, hm, fun _ => ⟨g, 0, rfl, (Array.getElem?_eq_some_iff.1 hg).1, fun k s hk => ?_⟩⟩
    have hlt : k < d.length := (List.getElem?_eq_some_iff.1 hk).1
    obtain ⟨q1, q2⟩ := prC_at (d.map symV) k (symV s) (by rw [List.getElem?_map, hk]; rfl)
    obtain ⟨e1, e2, e3⟩ := h.1 s (List.mem_of_getElem? hk)
    refine ⟨e1, e2, e3, ?_, ?_⟩
    · rw [Nat.zero_add, World.ownsRow.cellAt h2 (k * 2) (by omega)]
      exact q1
    · rw [Nat.zero_add, World.ownsRow.cellAt h2 (k * 2 + 1) (by omega)]
      exact q2

theorem OS.shape {w : World} {base : Nat} {v : Value} {d : List Sy} (h : OS w base v d) : ∃ ao cap, v = .slice ao d.length cap ∧ d.length ≤ cap ∧ cap ≤ maxLen := by
  rcases h.2.2 with ⟨rfl, hn⟩ | ⟨g, cap, cur, rfl, hb, hg, hc, hm, hs, ht⟩
  · exact ⟨none, 0, by rw [hn], by omega, by simp [maxLen]⟩
  · exact ⟨_, cap, rfl, hc, hm⟩

theorem OS.kept {w w' : World} {base : Nat} {v : Value} {d : List Sy} {row : Option Nat} (h : OS w base v d) (hg : w.grownBy w' row) (hr : v.ownBlock = none ∨ v.ownBlock ≠ row) : OS w' base v d := by
  refine ⟨h.1, h.2.1, ?_⟩
  rcases h.2.2 with h | ⟨g, cap, cur, rfl, hb, hgg, r⟩
  · exact .inl h
  · refine .inr ⟨g, cap, cur, rfl, hb, (hg.block g (Array.getElem?_eq_some_iff.1 hgg).1 ?_).trans hgg, r⟩
    rcases hr with hr | hr
    · cases hr
    · exact hr

theorem OS.later {w w' : World} {base : Nat} {v : Value} {d : List Sy} (h : OS w base v d) (hb : Below w.heap.size w w') : OS w' base v d :=
  h.kept (row := none) ⟨hb.os, hb.tape, hb.output, hb.size, fun k hk _ => hb.block k hk⟩ (by cases hv : v.ownBlock <;> simp)

theorem OS.mono {w : World} {base b' : Nat} {v : Value} {d : List Sy} (h : OS w base v d) (hb : b' ≤ base) : OS w b' v d := by
  refine ⟨h.1, h.2.1, ?_⟩
  rcases h.2.2 with h | ⟨g, cap, cur, rfl, hg, r⟩
  · exact .inl h
  · exact .inr ⟨g, cap, cur, rfl, by omega, r⟩

theorem OS.new (w : World) : OS (w.alloc (.cells #[] 28)) w.heap.size (.slice (some ⟨w.heap.size, 0, none⟩) 0 0) [] :=
  ⟨fun s hs => (by cases hs), empty_row2 28 (Nat.le_refl _)⟩

theorem sg_ok {w : World} {v : Value} {d : List Sy} (h : Sg w v d) : ∀ s ∈ d, SyOk s := fun s hs => by
  obtain ⟨ao, cap, rfl, _, _, hx⟩ := Row.flat h
  obtain ⟨k, hk⟩ := List.mem_iff_getElem?.1 hs
  obtain ⟨_, _, y, _, hy, h1, h2, h3, _⟩ := hx k (List.getElem?_eq_some_iff.1 hk).1
  rw [hk] at hy
  cases hy
  exact ⟨h1, h2, h3⟩

/-- Symbols joined to a row of one's own. -/
theorem join_syms (ty : TypeId) {w : World} {base : Nat} {x u : Value} {xs es : List Sy} (ho : OS w base x xs) (hs : Sg w u es) (hb : base ≤ w.heap.size) (hl : (xs.length + es.length) * 24 ≤ 140737488355328) :
    ∃ v' w', (Builtin.append_ #[22, 22] ty #[x, u]).run Tryz.prog w = .ok v' w' ∧ OS w' base v' (xs ++ es) ∧ w.grownBy w' x.ownBlock ∧ (v'.ownBlock = x.ownBlock ∨ v'.ownBlock = some w.heap.size) := by
  obtain ⟨i0, hi, hz0, hz1, hz2⟩ := info_parts info_sym
  have hok := sg_ok hs
  have hok2 : ∀ s ∈ xs ++ es, SyOk s := fun s h => by
    rcases List.mem_append.1 h with h | h
    · exact ho.1 s h
    · exact hok s h
  obtain ⟨bo, bc, hx, hbc, _⟩ := ho.shape
  obtain ⟨ao, cap, hu, _, _, hc⟩ := hs
  by_cases h0 : es.length = 0
  · obtain rfl : es = [] := List.eq_nil_of_length_eq_zero h0
    subst hx hu
    refine ⟨_, w, run_append_nothing w 22 22 ty 28 i0 under_syms hi _ xs.length bc hbc _ ?_, by rw [List.append_nil]; exact ho, World.grownBy.refl _ _, .inl rfl⟩
    cases ao with
    | none => exact Src.ofNil w under_syms _
    | some a => exact Src.ofSlice w under_syms a 0 _ [] (by simp) (fun j u hj => (by simp at hj)) (fun u hu => (by simp at hu))
  · obtain ⟨g, off, rfl, hg, hcell⟩ := hc (by omega)
    subst hu
    obtain ⟨v', w', hr, g2, g3, _, g5⟩ := run_append_own_at (P := Tryz.prog) w base 22 ty 28 i0 _ 2 24 under_syms hi hz0 hz1 hz2 rfl (by decide) x xs.length (prC (xs.map symV)) ho.2 ⟨g, off, none⟩ es.length cap (prC (es.map symV)) (by rw [prC_len, List.length_map])
      (fun j u hj => by
        obtain ⟨p, hp, hj2⟩ := prC_get hj
        rw [List.getElem?_map] at hp
        cases hk : es[j / 2]? with
        | none => rw [hk] at hp; simp at hp
        | some s =>
          rw [hk] at hp
          simp only [Option.map_some, Option.some.injEq] at hp
          subst hp
          obtain ⟨_, _, _, e4, e5⟩ := hcell _ s hk
          rw [Addr.add_lit]
          rcases hj2 with ⟨e, rfl⟩ | ⟨e, rfl⟩
          · rw [e]
            exact e4
          · rw [e, ← Nat.add_assoc]
            exact e5)
      (fun u hu => by
        obtain ⟨p, hp, hu2⟩ := prC_in hu
        obtain ⟨s, _, rfl⟩ := List.mem_map.1 hp
        rcases hu2 with rfl | rfl <;> rfl) (by unfold maxLen; omega) (by omega) hb
    refine ⟨v', w', hr, ⟨hok2, ?_⟩, g3, g5⟩
    rw [List.length_append, List.map_append, prC_app]
    exact g2

/-- A symbol marked, and a signature with its marked symbols behind it. -/
def markS (s : Sy) : Sy := (s.1 ++ ⟨#[35]⟩, s.2)

def extL (sig : List Sy) : List Sy := sig ++ sig.map markS

theorem sigGo_sym {sig : List Sy} : ∀ (r : List Sy) (k : Nat), sigGo sig k r = 0 → ∀ s ∈ r, symB s.1 = true
  | [], _, _, s, hs => by cases hs
  | x :: r, k, h, s, hs => by
    unfold sigGo at h
    split at h
    · rename_i h1
      split at h
      · cases h
      · split at h
        · cases h
        · rcases List.mem_cons.1 hs with rfl | hs
          · exact h1
          · exact sigGo_sym r (k + 1) h s hs
    · cases h

/-- Names of a right signature are short. -/
theorem name_short {sig : List Sy} (h : sigE sig = 0) : ∀ s ∈ sig, s.1.size ≤ 33 := fun s hs => by
  unfold sigE at h
  split at h
  · cases h
  · have h1 := sigGo_sym sig 0 h s hs
    unfold symB nameB at h1
    simp only [Bool.and_eq_true, Bool.not_eq_true', decide_eq_false_iff_not] at h1
    have h2 := h1.2.1
    have h3 : s.1.size ≤ (bare s.1).size + 1 := by
      show s.1.data.size ≤ (Lib.trimSuffix s.1.data.toList _).toArray.size + 1
      unfold Lib.trimSuffix
      split
      · simp only [List.size_toArray, List.length_take, Array.length_toList]
        have h4 : "#".toUTF8.data.size = 1 := by decide +kernel
        omega
      · simp
    omega

theorem sys_none (sig : List Sy) : (sysE sig []).1 = aheadE sig 0 := by
  unfold sysE
  split
  · rename_i h
    exact h.symm
  · rfl

end Go.Proofs.YtoapgbaibpkckaaGreatDoor

/- Extend, marked and termAt of package pairs walked. -/
namespace Go.Proofs.YtoapgbaibpkckaaGreatDoor
open Go.RowKit Go.Maps Go.BigFrame

set_option maxRecDepth 100000 in
theorem cloneS_any (v : Value) (d : List Sy) (w : World) (h : Sg w v d) (hl : d.length * 24 ≤ 140737488355328) :
    Calls Tryz.prog 28 #[v] w fun e w' => ∃ v', e = .returned v' ∧ OS w' w.heap.size v' d ∧ Below w.heap.size w w' := by
  have hq : ∀ (W : World) (a : Option Addr) (n c n' c' : Nat), (binOp .eql 22 (.slice a n c) (.slice none n' c')).run Tryz.prog W = .ok (.bool a.isNone) W := fun W a n c n' c' => Lib.run_eql_slice_nil W _ _ a n c n' c' under_syms
  obtain ⟨ao, cap, rfl, hao, hca, q0⟩ := Row.flat h
  cases ao with
  | none =>
    have hd : d = [] := by
      by_cases h0 : 0 < d.length
      · obtain ⟨_, _, _, he, _⟩ := q0 0 h0
        cases he
      · exact List.eq_nil_of_length_eq_zero (by omega)
    subst hd
    clear h q0
    go_enter Tryz.func28, Tryz.ntmps28
    go_wp2
    go_ret
    exact ⟨_, rfl, ⟨fun s hs => (by cases hs), World.ownsRow_nil _ _ _ _⟩, Below.refl _ _⟩
  | some a =>
    obtain ⟨v', w', hr, ho, hg, _⟩ := join_syms 22 (OS.new w) (h.kp (Kp.of_below (below_alloc (.cells #[] 28)))) (below_alloc _).size (by simpa using hl)
    rw [List.nil_append] at ho
    have HR := hid hr
    have HO := hid ho
    have HB := hid (grown_below (below_alloc _) hg (Nat.le_refl _))
    clear hr ho hg q0 h
    go_enter Tryz.func28, Tryz.ntmps28
    go_wp2_with (first
      | (at_builtin; refine wpList_append_run rfl _ _ _ rfl _ _ rfl rfl HR.out ?_))
    go_ret
    exact ⟨_, rfl, HO.out, HB.out⟩

/-- A symbol in a block of its own. -/
theorem sg_one {w : World} {s : ByteArray} {a : Int} (h : SyOk (s, a)) : Sg (w.alloc (.cells #[.string s, .int .i64 a] 28)) (.slice (some ⟨w.heap.size, 0, none⟩) 1 1) [(s, a)] := by
  refine ⟨_, 1, rfl, Nat.le_refl _, by simp [maxLen], fun _ => ⟨w.heap.size, 0, rfl, by simp, fun k y hk => ?_⟩⟩
  have hk0 : k = 0 := by have := (List.getElem?_eq_some_iff.1 hk).1; simp at this; omega
  subst hk0
  cases hk
  exact ⟨h.1, h.2.1, h.2.2, cell_new rfl, cell_new rfl⟩

set_option maxRecDepth 100000 in
set_option maxHeartbeats 1600000 in
theorem extend_any (sv : Value) (sig : List Sy) (w : World) (hs : Sg w sv sig) (hT : Tabs w) :
    Calls Tryz.prog 10 #[sv] w fun e w' => ∃ v', e = .returned (.tuple #[v', .int .i64 (aheadE sig 0)]) ∧ OS w' w.heap.size v' (if aheadE sig 0 = 0 then extL sig else []) ∧ Below w.heap.size w w' := by
  obtain ⟨so, sc, rfl, hso, hsc, _⟩ := Row.flat hs
  have hck := sysCheck_any (.slice so sig.length sc) (.slice none 0 0) sig [] w hs (Row.nil (by simp [maxLen])) hT
  simp only [sys_none] at hck
  have HCk := hid hck
  have HS := hid hs
  clear hck hs hT
  obtain ⟨E, hE⟩ : ∃ E, E = aheadE sig 0 := ⟨_, rfl⟩
  rw [← hE] at HCk ⊢
  have HE := hid hE
  clear hE
  go_enter Tryz.func10, Tryz.ntmps10
  go_wp2_with fail
  refine HCk.out.mono ?_
  rintro e w1 ⟨rfl, hb1⟩
  have B1 := hid hb1
  clear hb1 HCk
  by_cases h0 : E = 0
  · subst h0
    have hap := ahead_parts HE.out.symm
    have hl64 := hap.2.1
    have HSy : Hid (∀ s ∈ sig, SyOk s) := hid (sg_ok HS.out)
    have HNm : Hid (∀ s ∈ sig, s.1.size + 1 ≤ maxLen) := fun s hs => by have := name_short hap.1 s hs; unfold maxLen; omega
    clear hap
    go_wp2_with fail
    refine (cloneS_any _ sig w1 (HS.out.kp (Kp.of_below B1.out)) (by omega)).mono ?_
    rintro e w2 ⟨v2, rfl, o2, hb2⟩
    have B2 := hid (below_step B1.out hb2)
    have HO2 := hid (o2.mono B1.out.size)
    clear o2 hb2
    go_wp2
    go_loopw [6, 22] (fun ev iv wr => ∃ k : Nat, k ≤ sig.length ∧ iv = .int .i64 k ∧ OS wr w.heap.size ev (sig ++ (sig.take k).map markS) ∧ Below w.heap.size w wr) (fun _ iv _ => sig.length - (intOf iv).toNat)
    case atStart => exact ⟨0, Nat.zero_le _, rfl, by simpa using HO2.out, B2.out⟩
    case round =>
      clear HO2 B2
      obtain ⟨k, hk, rfl, hos, hbl⟩ := hrel
      have HO := hid hos
      have HB := hid hbl
      clear hos hbl
      by_cases hlt : k < sig.length
      · obtain ⟨g, off, s, a, rfl, hm, c0, c1, ha1, ha2, hs3⟩ := (HS.out.kp (Kp.of_below HB.out)).at hlt
        have HM := hid hm
        have hok := HSy.out _ (List.mem_of_getElem? hm)
        have hsz : s.size + 1 ≤ maxLen := HNm.out _ (List.mem_of_getElem? hm)
        have hnb : ¬ 9223372036854775807 < s.size + 1 := by unfold maxLen at hsz; omega
        obtain ⟨W1, hW1⟩ : ∃ X, X = wr.alloc (.cells #[.string s, .int .i64 a] 28) := ⟨_, rfl⟩
        have b1 : Below wr.heap.size wr W1 := by rw [hW1]; exact below_alloc _
        obtain ⟨D, hD⟩ : ∃ D, D = sig ++ (sig.take k).map markS := ⟨_, rfl⟩
        have hDl : D.length = sig.length + k := by rw [hD, List.length_append, List.length_map, List.length_take]; omega
        rw [← hD] at HO
        have q0 : W1.cell? ⟨wr.heap.size, 0, none⟩ = some (.string s) := by rw [hW1]; exact cell_new rfl
        have q1 : W1.cell? ⟨wr.heap.size, 1, none⟩ = some (.int .i64 a) := by rw [hW1]; exact cell_new rfl
        obtain ⟨v3, w3, hr, ho3, hg3, _⟩ := join_syms 22 ((HO.out.later b1).later (below_alloc (.cells #[.string (s ++ ⟨#[35]⟩), .int .i64 a] 28))) (sg_one (w := W1) (s := s ++ ⟨#[35]⟩) (a := a) ⟨hok.1, hok.2.1, by rw [ByteArray.size_append]; exact hsz⟩) (Nat.le_trans HB.out.size (below_step b1 (below_alloc _)).size) (by rw [hDl, List.length_singleton]; omega)
        have HR := hid hr
        have HO3 : Hid (OS w3 w.heap.size v3 (sig ++ (sig.take (k + 1)).map markS)) := by
          show OS _ _ _ _
          rw [take_get hm, List.map_append, ← List.append_assoc, ← hD]
          exact ho3
        have HB3 : Hid (Below w.heap.size w w3) := (below_step (below_step HB.out b1) (below_alloc _)).grown hg3 (below_step (below_step HB.out b1) (below_alloc _)).size (fun j hj => own_blk HO.out.2 hj)
        obtain ⟨eo, ec, rfl, hec1, hec2⟩ := HO.out.shape
        clear hm hok hr ho3 hg3 b1 hD hDl
        go_upto_region 8 with fail
        rw [← hW1]
        clear hW1
        generalize wr.heap.size = gw at q0 q1 ⊢
        go_wp2_with (first
          | (at_builtin; refine wpList_append_run rfl _ _ _ rfl _ _ rfl rfl HR.out ?_))
        go_roundw
        case rel => exact ⟨k + 1, hlt, by go_num, HO3.out, HB3.out⟩
        case measure => simp only [intOf]; omega
      · have hd : decide ((k : Int) < (sig.length : Int)) = false := by simpa using hlt
        have HO3 : Hid (OS wr w.heap.size u6 (extL sig)) := by
          have h9 := HO.out
          rw [List.take_of_length_le (by omega)] at h9
          exact h9
        go_wp2
        go_ret2
        exact ⟨_, rfl, HO3.out, HB.out⟩
  · have hne : (E != 0) = true := by rw [bne_iff_ne]; exact h0
    go_wp2
    go_ret2
    exact ⟨_, rfl, by exact ⟨fun s hs => (by cases hs), World.ownsRow_nil _ _ _ _⟩, B1.out⟩

end Go.Proofs.YtoapgbaibpkckaaGreatDoor

/- Replace and Above walked. -/
namespace Go.Proofs.YtoapgbaibpkckaaGreatDoor
open Go.RowKit Go.Maps Go.BigFrame

/-- The end of a row. -/
theorem Is.tail {w : World} {b off cap k : Nat} {t : List Int} (h : Is w (.slice (some ⟨b, off, none⟩) t.length cap) t) (hk : k ≤ t.length) : Is w (.slice (some ⟨b, if cap = k then off else off + k, none⟩) (t.length - k) (cap - k)) (t.drop k) := by
  by_cases he : k = t.length
  · subst he
    rw [List.drop_length, Nat.sub_self]
    obtain ⟨ao, cap', e, h1, h2, h3⟩ := h
    simp only [Value.slice.injEq, true_and] at e
    obtain ⟨_, rfl⟩ := e
    exact Row.nil (by omega)
  · have h1 : t.length ≤ cap := by
      obtain ⟨ao, cap', e, h1, _⟩ := h
      simp only [Value.slice.injEq, true_and] at e
      obtain ⟨_, rfl⟩ := e
      exact h1
    have h2 := h.mid (k := k) (m := t.length - k) (by omega) (by omega)
    rw [List.take_of_length_le (by rw [List.length_drop]; exact Nat.le_refl _)] at h2
    rw [if_neg (by omega)]
    exact h2

end Go.Proofs.YtoapgbaibpkckaaGreatDoor

/- Terms with a part replaced, plainly. -/
namespace Go.Proofs.YtoapgbaibpkckaaGreatDoor
open Go.RowKit Go.Maps Go.BigFrame

theorem right_len {sig : List Sy} {u : List Int} (h : rowE sig u = 0) : 0 < u.length := by
  cases u with
  | nil => simp [rowE, firstT] at h
  | cons c u => simp

end Go.Proofs.YtoapgbaibpkckaaGreatDoor

/- marked and termAt of package pairs walked. -/
namespace Go.Proofs.YtoapgbaibpkckaaGreatDoor
open Go.RowKit Go.Maps Go.BigFrame

/-- A row with its first code marked. -/
def mkL (sig : List Sy) : List Int → List Int
  | [] => []
  | c :: u => (c + (sig.length : Int)) :: u

theorem mk_set {sig : List Sy} {t : List Int} {c : Int} (h : t[0]? = some c) : mkL sig t = t.set 0 (c + (sig.length : Int)) := by
  cases t with
  | nil => simp at h
  | cons d u =>
    simp only [List.getElem?_cons_zero, Option.some.injEq] at h
    subst h
    rfl

set_option maxRecDepth 100000 in
set_option maxHeartbeats 800000 in
theorem marked_any (sv tv : Value) (sig : List Sy) (t : List Int) (w : World) (hs : Sg w sv sig) (ht : Is w tv t) (h0 : 0 < t.length) (hl : t.length * 8 ≤ 140737488355328) (hc : ∀ c ∈ t, c ≤ 1000000000) (hsl : sig.length ≤ 1000000000) :
    Calls Tryz.prog 32 #[sv, tv] w fun e w' => ∃ v', e = .returned v' ∧ OwI w' w.heap.size v' (mkL sig t) ∧ Below w.heap.size w w' := by
  obtain ⟨so, sc, rfl, hso, hsc, _⟩ := Row.flat hs
  obtain ⟨ta, tc, rfl, hta, htc, _⟩ := Row.flat ht
  obtain ⟨g0, o0, c, rfl, hx, _, hx1, hx2⟩ := ht.at h0
  have hcb := hc c (List.mem_of_getElem? hx)
  have HTt := hid ht
  have HMk := hid (mk_set (sig := sig) hx)
  have HX := hid hx
  clear hs ht hc hx
  have hw9 : IntKind.i64.wrap (c + (sig.length : Int)) = c + (sig.length : Int) := IntWalk.i64_in _ ⟨by omega, by omega⟩
  go_enter Tryz.func32, Tryz.ntmps32
  go_wp2_with fail
  refine (cloneI_any _ t w HTt.out h0 hl).mono ?_
  rintro e w1 ⟨v1, rfl, o1, hb1⟩
  obtain ⟨a, cap, rfl, hc1, hc2⟩ := o1.shape
  obtain ⟨g, hae⟩ : ∃ g, a = some ⟨g, 0, none⟩ := by
    rcases o1.2.2 with ⟨hv, hn⟩ | ⟨g, cap, cur, hv, _⟩
    · simp only [Value.slice.injEq] at hv; omega
    · simp only [Value.slice.injEq] at hv; exact ⟨g, hv.1⟩
  subst hae
  obtain ⟨q0, f0⟩ := o1.at HX.out
  have hge : w.heap.size ≤ g := own_blk o1.2 rfl
  obtain ⟨oz, bz⟩ := o1.put (w0 := w) (B := w.heap.size) hb1 hge rfl (k := 0) (z := c + (sig.length : Int)) ⟨by omega, by omega⟩ (ys := mkL sig t) HMk.out.symm
  have HO := hid oz
  have HB := hid bz
  unfold maxLen at hc2
  clear oz bz o1 hb1 HTt
  go_wp2
  go_ret
  exact ⟨_, rfl, HO.out, HB.out⟩

/-- A round of the count of what is missing. -/
theorem first_round {sig : List Sy} {m : Int} {i : Nat} {u : List Int} {n : Int} (h : firstT sig m i u = (n, 0)) : ∃ c r d, u = c :: r ∧ codeD sig c = some d ∧ ((m + d = 0 ∧ n = (i : Int) + 1) ∨ (m + d ≠ 0 ∧ firstT sig (m + d) (i + 1) r = (n, 0))) := by
  cases u with
  | nil => simp [firstT] at h
  | cons c r =>
    rw [firstT] at h
    cases hc : codeD sig c with
    | none => rw [hc] at h; simp at h
    | some d =>
      rw [hc] at h
      simp only at h
      refine ⟨c, r, d, rfl, hc, ?_⟩
      split at h
      · rename_i h0
        cases h
        exact .inl ⟨h0, rfl⟩
      · rename_i h0
        exact .inr ⟨h0, h⟩

theorem first_len {sig : List Sy} : ∀ {u : List Int} {m : Int} {i : Nat} {n : Int}, firstT sig m i u = (n, 0) → (i : Int) + 1 ≤ n
  | [], m, i, n, h => by simp [firstT] at h
  | c :: r, m, i, n, h => by
    obtain ⟨c', r', d, he, _, h9⟩ := first_round h
    cases he
    rcases h9 with ⟨_, h9⟩ | ⟨_, h9⟩
    · omega
    · have := first_len h9
      omega

theorem codeD_is {sig : List Sy} (ha : ArOk sig) {c d : Int} (h : codeD sig c = some d) : (c < 0 ∧ d = -1) ∨ (0 ≤ c ∧ c.toNat < sig.length ∧ ∃ s, sig[c.toNat]? = some s ∧ d = s.2 - 1 ∧ 0 ≤ s.2 ∧ s.2 ≤ 1000) := by
  unfold codeD at h
  split at h
  · cases h
  · split at h
    · rename_i h1
      cases h
      exact .inl ⟨h1, rfl⟩
    · rename_i h1
      cases hs : sig[c.toNat]? with
      | none => rw [hs] at h; cases h
      | some s =>
        rw [hs] at h
        simp only [Option.some.injEq] at h
        have := ha s (List.mem_of_getElem? hs)
        exact .inr ⟨by omega, (List.getElem?_eq_some_iff.1 hs).1, s, rfl, h.symm, this.1, this.2⟩

set_option maxRecDepth 100000 in
set_option maxHeartbeats 1600000 in
theorem termAt_any (sv tv : Value) (sig : List Sy) (t p u q : List Int) (w : World) (hs : Sg w sv sig) (ht : Is w tv t) (ha : ArOk sig) (he : t = p ++ (u ++ q)) (hu : rowE sig u = 0) (hl : t.length ≤ 1048576) :
    Calls Tryz.prog 31 #[sv, tv, .int .i64 (p.length : Int)] w fun e w' => ∃ v', e = .returned v' ∧ Is w' v' u ∧ w' = w := by
  obtain ⟨so, sc, rfl, hso, hsc, _⟩ := Row.flat hs
  obtain ⟨ta, tc, rfl, hta, htc, _⟩ := Row.flat ht
  have hul := right_len hu
  have htl : t.length = p.length + (u.length + q.length) := by rw [he, List.length_append, List.length_append]
  have hf : firstT sig 1 0 (t.drop p.length) = ((u.length : Int), 0) := by rw [he, List.drop_left]; exact first_right hu q
  have hmid : (t.drop p.length).take u.length = u := by rw [he, List.drop_left, List.take_left]
  obtain ⟨n, hn⟩ : ∃ n, n = p.length := ⟨_, rfl⟩
  rw [← hn] at hf hmid htl ⊢
  have HS := hid hs
  have HTt := hid ht
  have HA := hid ha
  have HM := hid hmid
  unfold maxLen at hsc htc
  clear hs ht ha he hu hn hmid
  go_enter Tryz.func31, Tryz.ntmps31
  go_wp2
  go_loopw [7, 8] (fun ev mv wr => ∃ (k : Nat) (m : Int), ev = .int .i64 ((n + k : Nat) : Int) ∧ mv = .int .i64 m ∧ k ≤ u.length ∧ 0 ≤ m ∧ m ≤ 1 + 1000 * (k : Int) ∧ ((m = 0 ∧ k = u.length) ∨ (0 < m ∧ firstT sig m k (t.drop (n + k)) = ((u.length : Int), 0))) ∧ wr = w) (fun ev _ _ => n + u.length - (intOf ev).toNat)
  case atStart => exact ⟨0, 1, by simp, rfl, by omega, by omega, by omega, .inr ⟨by omega, by simpa using hf⟩, rfl⟩
  case round =>
    clear hf
    obtain ⟨k, m, rfl, rfl, hk, hm0, hm1, hor, hw⟩ := hrel
    have hw8 := hw.symm
    subst hw8
    clear hw
    rcases hor with ⟨rfl, rfl⟩ | ⟨hmp, hf⟩
    · obtain ⟨g, off, _, rfl, _⟩ := HTt.out.at (k := n) (by omega)
      have hi := HTt.out.mid (k := n) (m := u.length) (by omega) (by omega)
      rw [HM.out] at hi
      have HI := hid hi
      have h1 : n + u.length - n = u.length := by omega
      have h2 : n ≤ n + u.length := by omega
      have h3 : n + u.length ≤ tc := by omega
      have h4 : ¬ tc = n := by omega
      have h5 : ¬ n = tc := by omega
      clear hi
      go_wp2
      go_ret
      exact ⟨_, rfl, by rw [h1]; exact HI.out, rfl⟩
    · obtain ⟨c, r, d, hdr, hcd, hnx⟩ := first_round hf
      have hlt : n + k < t.length := by
        have := congrArg List.length hdr
        rw [List.length_drop, List.length_cons] at this
        omega
      have hku : k < u.length := by
        rcases hnx with ⟨_, h9⟩ | ⟨h8, h9⟩
        · omega
        · have := first_len h9
          omega
      have hxc : t[n + k]? = some c := by
        have := List.getElem?_drop (xs := t) (i := n + k) (j := 0)
        rw [hdr] at this
        simpa using this.symm
      have hdr2 : t.drop (n + (k + 1)) = r := by rw [← Nat.add_assoc, ← List.drop_drop, hdr]; rfl
      obtain ⟨g, off, x, rfl, hx, hxx, hx1, hx2⟩ := HTt.out.at hlt
      rw [hxc] at hx
      cases hx
      have HD := hid hdr2
      have HNx := hid hnx
      have hdm : decide (0 < m) = true := by simpa using hmp
      have hwk : IntKind.i64.wrap (((n + k : Nat) : Int) + 1) = ((n + (k + 1) : Nat) : Int) := by rw [IntWalk.i64_in _ ⟨by omega, by omega⟩]; omega
      have hwm : IntKind.i64.wrap (m - 1) = m - 1 := IntWalk.i64_in _ ⟨by omega, by omega⟩
      have HRel : Hid (0 ≤ m + d ∧ ((m + d = 0 ∧ k + 1 = u.length) ∨ (0 < m + d ∧ firstT sig (m + d) (k + 1) (t.drop (n + (k + 1))) = ((u.length : Int), 0)))) := by
        have hmd : 0 ≤ m + d := by
          rcases codeD_is HA.out hcd with ⟨_, rfl⟩ | ⟨_, _, s, _, rfl, h8, _⟩ <;> omega
        refine ⟨hmd, ?_⟩
        rcases HNx.out with ⟨h8, h9⟩ | ⟨h8, h9⟩
        · exact .inl ⟨h8, by omega⟩
        · exact .inr ⟨by omega, by rw [HD.out]; exact h9⟩
      rcases codeD_is HA.out hcd with ⟨hc0, rfl⟩ | ⟨hc0, hcl, ⟨sn, sa⟩, hsm, rfl, ha0, ha1⟩
      · have hdc : decide (c ≥ 0) = false := by simpa using hc0
        clear hdr hcd hnx hxc hdr2 hf
        go_wp2
        go_roundw
        case rel => exact ⟨k + 1, m - 1, by trivial, by trivial, hku, HRel.out.1, by omega, HRel.out.2, by trivial⟩
        case measure => simp only [intOf]; omega
      · obtain ⟨C, rfl⟩ := Int.eq_ofNat_of_zero_le hc0
        have hdc : decide ((C : Int) ≥ 0) = true := by simp
        obtain ⟨g', off', sn', sa', rfl, hsm', e0, e1, _, _, _⟩ := HS.out.at (k := C) (by simpa using hcl)
        rw [Int.toNat_natCast, hsm'] at hsm
        cases hsm
        have hcl2 : C < sig.length := by simpa using hcl
        simp only at ha0 ha1 HRel
        have hwa : IntKind.i64.wrap (m - 1 + sa) = m - 1 + sa := IntWalk.i64_in _ ⟨by omega, by omega⟩
        clear hdr hcd hnx hxc hdr2 hf hsm' hcl
        go_wp2
        go_roundw
        case rel =>
          have h9 := HRel.out
          rw [show m + (sa - 1) = m - 1 + sa by omega] at h9
          exact ⟨k + 1, m - 1 + sa, by trivial, by trivial, hku, h9.1, by omega, h9.2, by trivial⟩
        case measure => simp only [intOf]; omega

end Go.Proofs.YtoapgbaibpkckaaGreatDoor

/- Rows that rise, plainly. -/
namespace Go.Proofs.YtoapgbaibpkckaaGreatDoor
open Go.RowKit Go.Maps

theorem rise_eq : ∀ {a b : List Int}, a.Pairwise (· < ·) → b.Pairwise (· < ·) → (∀ x, x ∈ a ↔ x ∈ b) → a = b
  | [], [], _, _, _ => rfl
  | [], y :: b, _, _, h => absurd ((h y).2 (by simp)) (by simp)
  | x :: a, [], _, _, h => absurd ((h x).1 (by simp)) (by simp)
  | x :: a, y :: b, ha, hb, h => by
    rw [List.pairwise_cons] at ha hb
    have hxy : x = y := by
      rcases List.mem_cons.1 ((h x).1 (by simp)) with e | e
      · exact e
      · rcases List.mem_cons.1 ((h y).2 (by simp)) with e2 | e2
        · exact e2.symm
        · have := hb.1 x e
          have := ha.1 y e2
          omega
    subst hxy
    rw [rise_eq ha.2 hb.2 fun z => ?_]
    constructor
    · intro hz
      rcases List.mem_cons.1 ((h z).1 (by simp [hz])) with e | e
      · have := ha.1 z hz; omega
      · exact e
    · intro hz
      rcases List.mem_cons.1 ((h z).2 (by simp [hz])) with e | e
      · have := hb.1 z hz; omega
      · exact e

end Go.Proofs.YtoapgbaibpkckaaGreatDoor

/- The document's Defined of layer 7, and sameInts of the laws. -/
namespace Go.Proofs.YtoapgbaibpkckaaGreatDoor
open Go.RowKit Go.Maps Go.BigFrame

theorem sortI_up (xs : List Int) : (sortI xs).Pairwise (· ≤ ·) := by
  have h1 : (sortI xs).Pairwise (fun a b => decide (a ≤ b) = true) := List.pairwise_mergeSort (fun a b c => by simp; omega) (fun a b => by simp; omega) xs
  exact h1.imp fun h => by simpa using h

theorem comp_upto {d : List Int} (hd : d.Pairwise (· ≤ ·)) : ∀ m, m ≤ d.length → (Lib.compactUpTo d.toArray m).Pairwise (· < ·) ∧ (∀ x, x ∈ Lib.compactUpTo d.toArray m ↔ x ∈ d.take m)
  | 0, _ => by simp [Lib.compactUpTo]
  | m + 1, hm => by
    obtain ⟨h1, h2⟩ := comp_upto hd m (by omega)
    have hg : ∀ j, j < d.length → d.toArray[j]! = d[j]! := fun j hj => by rw [getElem!_pos d.toArray j (by simpa using hj), getElem!_pos d j hj]; simp
    have hle : ∀ i j, i ≤ j → j < d.length → d[i]! ≤ d[j]! := fun i j hij hj => by
      rw [getElem!_pos d i (by omega), getElem!_pos d j hj]
      rcases Nat.lt_or_eq_of_le hij with h | h
      · exact (List.pairwise_iff_getElem.1 hd) i j (by omega) hj h
      · subst h; exact Int.le_refl _
    have htk : ∀ x, x ∈ d.take m → ∃ i, i < m ∧ x = d[i]! := fun x hx => by
      obtain ⟨i, hi⟩ := List.getElem?_of_mem hx
      obtain ⟨hi1, hi2⟩ := List.getElem?_eq_some_iff.1 hi
      rw [List.length_take] at hi1
      rw [List.getElem_take] at hi2
      exact ⟨i, by omega, by rw [getElem!_pos d i (by omega), hi2]⟩
    have hst : d.take (m + 1) = d.take m ++ [d[m]!] := by
      rw [getElem!_pos d m (by omega)]; exact (List.take_append_getElem (by omega)).symm
    rw [Lib.compactUpTo_succ]
    by_cases hk : Lib.keeps d.toArray m = true
    · rw [if_pos hk, hst, hg m (by omega)]
      refine ⟨?_, fun x => ?_⟩
      · rw [List.pairwise_append]
        refine ⟨h1, by simp, fun a ha b hb => ?_⟩
        obtain ⟨i, hi, rfl⟩ := htk a ((h2 a).1 ha)
        simp only [List.mem_cons, List.not_mem_nil, or_false] at hb
        subst hb
        unfold Lib.keeps at hk
        rw [decide_eq_true_eq] at hk
        rcases hk with hk | hk
        · omega
        · rw [hg m (by omega), hg (m - 1) (by omega)] at hk
          have e1 := hle i (m - 1) (by omega) (by omega)
          have e2 := hle (m - 1) m (by omega) (by omega)
          omega
      · rw [List.mem_append, List.mem_append, h2]
    · rw [if_neg hk, List.append_nil, hst]
      refine ⟨h1, fun x => ?_⟩
      rw [h2, List.mem_append]
      refine ⟨.inl, fun hx => hx.elim id fun hx => ?_⟩
      simp only [List.mem_cons, List.not_mem_nil, or_false] at hx
      subst hx
      have hk2 : ¬ (m = 0 ∨ d.toArray[m]! ≠ d.toArray[m - 1]!) := fun h => hk (by unfold Lib.keeps; exact decide_eq_true h)
      rw [hg m (by omega), hg (m - 1) (by omega)] at hk2
      have hm0 : m ≠ 0 := fun h => hk2 (.inl h)
      have he : d[m]! = d[m - 1]! := Classical.byContradiction fun h => hk2 (.inr h)
      rw [he, getElem!_pos d (m - 1) (by omega)]
      rw [List.mem_take_iff_getElem]
      exact ⟨m - 1, by omega, rfl⟩

theorem comp_rise {d : List Int} (hd : d.Pairwise (· ≤ ·)) : (Lib.compact d).Pairwise (· < ·) := (comp_upto hd d.length (Nat.le_refl _)).1

theorem comp_mem {d : List Int} (hd : d.Pairwise (· ≤ ·)) (x : Int) : x ∈ Lib.compact d ↔ x ∈ d := by
  have := (comp_upto hd d.length (Nat.le_refl _)).2 x
  rwa [List.take_length] at this

/-- The codes below n that are in a row. -/
def belowL (n : Nat) (rs : List Int) : List Int := ((List.range n).map Int.ofNat).filter fun c => decide (c ∈ rs)

theorem belowL_succ (n : Nat) (rs : List Int) : belowL (n + 1) rs = belowL n rs ++ (if (n : Int) ∈ rs then [(n : Int)] else []) := by
  unfold belowL
  rw [List.range_succ, List.map_append, List.filter_append]
  congr 1
  by_cases h : (n : Int) ∈ rs
  · simp [h]
  · simp [h]

theorem belowL_eq {n : Nat} {rs : List Int} (h : ∀ c ∈ rs, 0 ≤ c ∧ c < n) : Lib.compact (sortI rs) = belowL n rs := by
  refine rise_eq (comp_rise (sortI_up rs)) ?_ fun x => ?_
  · unfold belowL
    refine List.Pairwise.filter _ ?_
    refine List.Pairwise.map _ (fun a b hab => ?_) (List.pairwise_lt_range)
    exact Int.ofNat_lt.2 hab
  · rw [comp_mem (sortI_up rs), sortI_mem]
    unfold belowL
    rw [List.mem_filter, decide_eq_true_eq, List.mem_map]
    refine ⟨fun hx => ⟨⟨x.toNat, ?_, ?_⟩, hx⟩, fun hx => hx.2⟩
    · have := h x hx; rw [List.mem_range]; omega
    · have := h x hx; show ((x.toNat : Nat) : Int) = x; omega

theorem code_lt {sig : List Sy} {c : Int} (h : codeD sig c ≠ none) : c < (sig.length : Int) := by
  have : ¬ (sig.length : Int) ≤ c := fun h9 => h (codeD_none (.inl h9))
  omega

theorem root_code {sig : List Sy} {t : List Int} (h : rowE sig t = 0) : codeD sig ((t[0]?).getD 0) ≠ none := by
  cases t with
  | nil => simp [rowE, firstT] at h
  | cons c t =>
    intro h9
    simp only [List.getElem?_cons_zero, Option.getD_some] at h9
    unfold rowE firstT at h
    rw [h9] at h
    simp at h

theorem defined_eq {sig : List Sy} {rs : List Rl} (h : ∀ r ∈ rs, ruleE sig r = 0) : Lib.compact (sortI (rootsL rs)) = belowL sig.length (rootsL rs) := by
  refine belowL_eq fun c hc => ?_
  unfold rootsL at hc
  obtain ⟨r, hr, rfl⟩ := List.mem_map.1 hc
  obtain ⟨h1, _, _, _, h5, _⟩ := rule_parts (h r hr)
  exact ⟨h5, code_lt (root_code (term_parts h1).2)⟩

theorem roots_next {rs : List Rl} {j : Nat} {l r : List Int} {c k : Int} (hm : rs[j]? = some (l, r)) (hc : l[0]? = some c) : decide (k ∈ rootsL (rs.take (j + 1))) = (decide (k ∈ rootsL (rs.take j)) || (c == k)) := by
  have e : rootsL (rs.take (j + 1)) = rootsL (rs.take j) ++ [c] := by
    unfold rootsL
    rw [take_get hm, List.map_append]
    simp only [List.map_cons, List.map_nil]
    rw [hc]
    rfl
  rw [e]
  by_cases h1 : k ∈ rootsL (rs.take j)
  · simp [h1]
  · by_cases h2 : c = k
    · subst h2; simp
    · have h3 : ¬ k = c := fun h => h2 h.symm
      have h4 : (c == k) = false := by simpa using h2
      simp [h1, h3, h4]

set_option maxRecDepth 100000 in
set_option maxHeartbeats 1600000 in
theorem refDefined_any (sv rv : Value) (sig : List Sy) (rs : List Rl) (w : World) (hs : Sg w sv sig) (hr : RU w rv rs) :
    Calls Tryz.prog 25 #[.agg #[sv, rv]] w fun e w' => ∃ v', e = .returned v' ∧ Is w' v' (definedL sig rs) ∧ Below w.heap.size w w' := by
  obtain ⟨so, sc, rfl, hso, hsc, _⟩ := Row.flat hs
  obtain ⟨ro, rc, rfl, hro, hrc, _⟩ := Row.flat hr
  unfold maxLen at hsc hrc
  have HS := hid hs
  have HR := hid hr
  clear hs hr
  obtain ⟨w0, hw0⟩ : ∃ X, X = w.alloc (.cells #[.slice so sig.length sc, .slice ro rs.length rc] 32) := ⟨_, rfl⟩
  have C0 : Hid (Below w.heap.size w w0) := by rw [hw0]; exact below_alloc _
  have HC : Hid (∀ W, Below w0.heap.size w0 W → W.cell? ⟨w.heap.size, 0, none⟩ = some (.slice so sig.length sc) ∧ W.cell? ⟨w.heap.size, 1, none⟩ = some (.slice ro rs.length rc)) := fun W hW => by
    have hk := Kp.of_below hW
    rw [hw0] at hk
    exact ⟨hk.cell _ _ (cell_new rfl), hk.cell _ _ (cell_new rfl)⟩
  obtain ⟨x0, x1⟩ := HC.out w0 (Below.refl _ _)
  go_enter Tryz.func25, Tryz.ntmps25
  go_wp2_with fail
  rw [← hw0]
  clear hw0
  refine (refRight_any _ _ sig rs w0 (HS.out.kp (Kp.of_below C0.out)) (HR.out.kp (Kp.of_below C0.out))).mono ?_
  rintro e w1 ⟨rfl, hb1⟩
  have C1 := hid (below_step C0.out hb1)
  have D1 := hid hb1
  clear hb1 x0 x1
  cases hok : sysB sig rs with
  | false =>
    have HF : Hid (definedL sig rs = []) := by show _ = _; unfold definedL; rw [hok]; rfl
    clear hok
    go_wp2
    go_ret
    exact ⟨_, rfl, by rw [HF.out]; exact Row.nil (by simp [maxLen]), C1.out⟩
  | true =>
    obtain ⟨hah, hru⟩ := sys_right hok
    have HF : Hid (definedL sig rs = belowL sig.length (rootsL rs)) := by show _ = _; unfold definedL; rw [hok, if_pos rfl]; exact defined_eq hru
    have HRu := hid hru
    have hr64 := (ahead_parts hah).2.2.2
    have hs64 := (ahead_parts hah).2.1
    clear hok hah hru
    go_wp2
    go_loopw [3, 4] (fun ov iv wr => ∃ k : Nat, k ≤ sig.length ∧ iv = .int .i64 k ∧ OwI wr w1.heap.size ov (belowL k (rootsL rs)) ∧ Below w1.heap.size w1 wr) (fun _ iv _ => sig.length - (intOf iv).toNat)
    case atStart => exact ⟨0, Nat.zero_le _, rfl, ⟨fun k x hk => (by simp [belowL] at hk), World.ownsRow_nil _ _ _ _⟩, Below.refl _ _⟩
    case round =>
      obtain ⟨k, hk, rfl, how, hbl⟩ := hrel
      have HO := hid how
      have HB := hid hbl
      have CB := hid (below_step C1.out hbl)
      have DB := hid (below_step D1.out hbl)
      obtain ⟨z0, z1⟩ := HC.out wr DB.out
      have hkl : (belowL k (rootsL rs)).length ≤ k := by
        unfold belowL
        refine Nat.le_trans (List.length_filter_le _ _) ?_
        simp
      have HKl := hid hkl
      clear how hkl
      by_cases hlt : k < sig.length
      · go_wp2
        go_loopw [5, 6] (fun bv jv wi => ∃ j : Nat, j ≤ rs.length ∧ jv = .int .i64 j ∧ bv = .bool (decide ((k : Int) ∈ rootsL (rs.take j))) ∧ Below wr.heap.size wr wi) (fun _ jv _ => rs.length - (intOf jv).toNat)
        case atStart => exact ⟨0, Nat.zero_le _, rfl, by simp [rootsL], Below.refl _ _⟩
        case round =>
          obtain ⟨j, hj, rfl, rfl, hbj⟩ := hrel
          have HBj := hid hbj
          obtain ⟨z0', z1'⟩ := HC.out _ (below_step DB.out hbj)
          clear z0 z1
          have z1 := z1'
          clear z0' z1' hbj
          by_cases hjl : j < rs.length
          · obtain ⟨g, off, l, r, a1, c1, a2, c2, rfl, hm, hc0, hc1, hi1, hi2, hl1, hl2⟩ := (HR.out.kp (Kp.of_below (below_step CB.out HBj.out))).at hjl
            have hrp := rule_parts (HRu.out _ (List.mem_of_getElem? hm))
            have hlp := row_posS (term_parts hrp.1).2
            obtain ⟨gl, ol, c, rfl, hc, hcx, hcb1, hcb2⟩ := hi1.at hlp
            rw [Nat.add_zero] at hcx
            have HN := hid (roots_next (k := (k : Int)) hm hc)
            clear hm hc hc1 hi1 hi2 hrp
            cases hin : decide ((k : Int) ∈ rootsL (rs.take j)) with
            | true =>
              have HNx : Hid (true = decide ((k : Int) ∈ rootsL (rs.take (j + 1)))) := by show _ = _; rw [HN.out, hin]; rfl
              clear hin HN
              go_wp2
              go_roundw
              case rel => exact ⟨j + 1, hjl, by go_num, by rw [← HNx.out], HBj.out⟩
              case measure => simp only [intOf]; omega
            | false =>
              have HNx : Hid ((c == (k : Int)) = decide ((k : Int) ∈ rootsL (rs.take (j + 1)))) := by show _ = _; rw [HN.out, hin]; rfl
              clear hin HN
              go_wp2
              go_roundw
              case rel => exact ⟨j + 1, hjl, by go_num, by rw [← HNx.out], HBj.out⟩
              case measure => simp only [intOf]; omega
          · have hke : rs.take j = rs := List.take_of_length_le (by omega)
            rw [hke]
            clear hke
            by_cases hin : (k : Int) ∈ rootsL rs
            · rw [decide_eq_true hin]
              have HN : Hid (belowL (k + 1) (rootsL rs) = belowL k (rootsL rs) ++ [(k : Int)]) := by show _ = _; rw [belowL_succ, if_pos hin]
              obtain ⟨v6, w6, hr6, ho6, hg6, _⟩ := join_one 36 (c := (k : Int)) (HO.out.later HBj.out) (by omega) (by omega) (Nat.le_trans HB.out.size HBj.out.size) (by have := HKl.out; omega)
              have hB9 := below_step HB.out (below_step HBj.out (below_alloc (.cells #[.int .i64 (k : Int)] 3)))
              have HB6 : Hid (Below w1.heap.size w1 w6) := hB9.grown hg6 hB9.size (fun j hj => own_blk HO.out.2 hj)
              rw [← HN.out] at ho6
              have HO6 := hid ho6
              have HR6 := hid hr6
              clear hr6 ho6 hg6 hB9 hin HN
              go_wp2_with (first
                | (at_builtin; refine wpList_append_run rfl _ _ _ rfl _ _ rfl rfl HR6.out ?_))
              go_roundw
              case rel => exact ⟨k + 1, hlt, by go_num, HO6.out, HB6.out⟩
              case measure => simp only [intOf]; omega
            · rw [decide_eq_false hin]
              have HN : Hid (belowL (k + 1) (rootsL rs) = belowL k (rootsL rs)) := by show _ = _; rw [belowL_succ, if_neg hin, List.append_nil]
              clear hin
              go_wp2
              go_roundw
              case rel => exact ⟨k + 1, hlt, by go_num, by rw [HN.out]; exact HO.out.later HBj.out, below_step HB.out HBj.out⟩
              case measure => simp only [intOf]; omega
      · have hke : k = sig.length := by omega
        subst hke
        go_wp2
        go_ret
        exact ⟨_, rfl, by rw [HF.out]; exact HO.out.is, CB.out⟩

end Go.Proofs.YtoapgbaibpkckaaGreatDoor
