/- Texts of the proof, one behind the other. -/
import Derived.Test.YtdjmjhlbjcgoiaaGreatDoorOwn7
import Derived.Test.YtdjmjhlbjcgoiaaGreatDoorOwn4
import Derived.Test.YtdjmjhlbjcgoiaaGreatDoorOwn5
import Derived.Test.YtdjmjhlbjcgoiaaGreatDoorOwn1
import Derived.Laws.Rows
import Derived.Laws.ResultCell
/- kidsOf walked. -/
namespace Go.Proofs.YtdjmjhlbjcgoiaaGreatDoor
open Go.RowKit Go.Maps

/-- The places of trees that stand one behind the other. -/
def kidsGo : Nat → List Tr → List Int
  | _, [] => []
  | p, t :: ts => (p : Int) :: kidsGo (p + t.size) ts

theorem kidsGo_app : ∀ (p : Nat) (a b : List Tr), kidsGo p (a ++ b) = kidsGo p a ++ kidsGo (p + sizes a) b
  | p, [], b => by simp [kidsGo, sizes]
  | p, t :: a, b => by simp only [List.cons_append, kidsGo, kidsGo_app (p + t.size) a b, sizes, Nat.add_assoc]

theorem kidsGo_len : ∀ (p : Nat) (a : List Tr), (kidsGo p a).length = a.length
  | _, [] => rfl
  | p, t :: a => by simp only [kidsGo, List.length_cons, kidsGo_len (p + t.size) a]

def kidsR (p : Nat) : Tr → List Int
  | .var => []
  | .app ts => kidsGo (p + 1) ts

theorem TVs.get {w : World} {A : Nat → Prop} {g : Nat} : ∀ {o : Nat} {ts : List Tr} {k : Nat} {t : Tr}, TVs w A g o ts → ts[k]? = some t → ∃ v, w.cell? ⟨g, o + k, none⟩ = some v ∧ TV w A v t
  | o, [], k, t, _, hk => by simp at hk
  | o, x :: ts, 0, t, h, hk => by
    unfold TVs at h
    simp only [List.getElem?_cons_zero, Option.some.injEq] at hk
    subst hk
    exact h.1
  | o, x :: ts, k + 1, t, h, hk => by
    unfold TVs at h
    rw [List.getElem?_cons_succ] at hk
    obtain ⟨v, h1, h2⟩ := TVs.get h.2 hk
    exact ⟨v, by rw [show o + (k + 1) = o + 1 + k by omega]; exact h1, h2⟩

theorem under_app : Tryz.prog.underlying 145 = some (.pointer 149) := by kernel_rfl

theorem zero_app : (Tryz.prog.info? 145).map (·.zero) = some (some (.pointer none)) := by kernel_rfl

theorem as_app (v : Value) (xT : TypeId) (ok : Bool) (w : World) : (Instr.typeAssert (.iface 145 v) xT 145 ok).run Tryz.prog w = .ok (if ok then .tuple #[v, .bool true] else v) w := by
  simp [Instr.typeAssert, run_underlying under_app, go_sem, Result.andThen]

theorem as_not (v : Value) (xT : TypeId) (w : World) : (Instr.typeAssert (.iface 154 v) xT 145 true).run Tryz.prog w = .ok (.tuple #[.pointer none, .bool false]) w := by
  obtain ⟨i, hi, hz⟩ : ∃ i, Tryz.prog.info? 145 = some i ∧ i.zero = some (.pointer none) := by
    have h := zero_app
    cases hi : Tryz.prog.info? 145 with
    | none => rw [hi] at h; cases h
    | some i => rw [hi] at h; exact ⟨i, rfl, by simpa using h⟩
  simp [Instr.typeAssert, run_underlying under_app, go_sem, Result.andThen, zeroValue, typeInfo, hi, hz]

set_option maxRecDepth 100000 in
set_option maxHeartbeats 1600000 in
theorem kidsOf_any (u : Value) (T : Tr) (A : Nat → Prop) (p : Nat) (w : World) (ht : TV w A u T) (hA : ∀ b, A b → b < w.heap.size) (hs : p + T.size ≤ 4611686018427387904) (hl : T.size * 8 ≤ 140737488355328) :
    Calls Tryz.prog 59 #[u, .int .i64 p] w fun e w' => ∃ v', e = .returned v' ∧ OwI w' w.heap.size v' (kidsR p T) ∧ Below w.heap.size w w' := by
  cases T with
  | var =>
    unfold TV at ht
    subst ht
    have has := as_not
    go_enter Tryz.func59, Tryz.ntmps59
    go_wp2
    go_ret
    exact ⟨_, rfl, ⟨fun k x hk => (by simp [kidsR] at hk), World.ownsRow_nil _ _ _ _⟩, Below.refl _ _⟩
  | app ts =>
    unfold TV at ht
    obtain ⟨b, a, cp, rfl, hb, h3, h4, h5, h6, h7⟩ := ht
    simp only [Tr.size] at hs hl
    unfold maxLen at h6
    have hbig := len_sizes ts
    have HA := hid hA
    have H7 := hid h7
    have hwp : IntKind.i64.wrap ((p : Int) + 1) = ((p + 1 + sizes (ts.take 0) : Nat) : Int) := by rw [IntWalk.i64_in _ ⟨by omega, by omega⟩]; simp [sizes]
    clear hA h7 h4
    have has := as_app (.pointer (some ⟨b, 0, none⟩)) 104 true
    simp only [if_true] at has
    go_enter Tryz.func59, Tryz.ntmps59
    go_wp2
    clear has hwp
    go_loopw [7, 8, 25] (fun x pv iv wr => ∃ k : Nat, k ≤ ts.length ∧ iv = .int .i64 k ∧ pv = .int .i64 ((p + 1 + sizes (ts.take k) : Nat) : Int) ∧ OwI wr w.heap.size x (kidsGo (p + 1) (ts.take k)) ∧ Below w.heap.size w wr) (fun _ _ iv _ => ts.length - (intOf iv).toNat)
    case atStart => exact ⟨0, Nat.zero_le _, rfl, rfl, ⟨fun k x hk => (by simp [kidsGo] at hk), World.ownsRow_nil _ _ _ _⟩, Below.refl _ _⟩
    case round =>
      obtain ⟨k, hk, rfl, rfl, how, hbl⟩ := hrel
      have HOw := hid how
      have HBl := hid hbl
      clear how hbl
      by_cases hlt : k < ts.length
      · obtain ⟨t, htk⟩ : ∃ t, ts[k]? = some t := ⟨_, List.getElem?_eq_getElem hlt⟩
        obtain ⟨g, off, rfl, hAg, htvs⟩ : ∃ g off, a = some ⟨g, off, none⟩ ∧ A g ∧ TVs w A g off ts := by
          rcases H7.out with h | h
          · rw [h] at hlt; simp at hlt
          · exact h
        obtain ⟨u, hcu, htv⟩ := htvs.get htk
        have hcur := (HBl.out.cell (p := ⟨g, off + k, none⟩) (HA.out g hAg)).trans hcu
        have hst := sizes_take ts (k + 1)
        have hsn : sizes (ts.take (k + 1)) = sizes (ts.take k) + t.size := by rw [take_get htk, sizes_app]; simp [sizes]
        have HSn := hid hsn
        have hkn : kidsGo (p + 1) (ts.take (k + 1)) = kidsGo (p + 1) (ts.take k) ++ [((p + 1 + sizes (ts.take k) : Nat) : Int)] := by rw [take_get htk, kidsGo_app]; simp [kidsGo]
        have HKn := hid hkn
        have hlenk : (kidsGo (p + 1) (ts.take k)).length = k := by rw [kidsGo_len, List.length_take]; omega
        have HSg := hid HBl.out.size
        obtain ⟨S, hS⟩ : ∃ S, S = sizes (ts.take k) := ⟨_, rfl⟩
        rw [← hS] at hsn HSn HKn ⊢
        obtain ⟨v6, w6, hr6, ho6, hg6, _⟩ := join_one 30 (c := ((p + 1 + S : Nat) : Int)) HOw.out (by omega) (by omega) HBl.out.size (by rw [hlenk]; omega)
        have hb6 := (below_step HBl.out (below_alloc _)).grown hg6 (Nat.le_trans HBl.out.size (below_alloc _).size) (fun j hj => own_blk HOw.out.2 hj)
        have HR6 := hid hr6
        have HO6 := hid (HKn.out ▸ ho6)
        have HB6 := hid hb6
        clear hS htk hkn hr6 ho6 hg6 hb6 hcu htvs hlenk
        cases t with
        | var =>
          unfold TV at htv
          subst htv
          simp only [Tr.size] at hsn HSn
          go_wp2_with (first
            | (at_builtin; refine wpList_append_run rfl _ _ _ rfl _ _ rfl rfl HR6.out ?_))
          refine (varNodes_any w6).mono ?_
          rintro e w2 ⟨rfl, hb2⟩
          have hwr : IntKind.i64.wrap ((p : Int) + 1 + S + 1) = ((p + 1 + (S + 1) : Nat) : Int) := by rw [IntWalk.i64_in _ ⟨by omega, by omega⟩]; omega
          have HO2 := hid (HO6.out.later hb2)
          have HB2 := hid (below_step HB6.out hb2)
          clear hb2
          go_wp2
          go_roundw
          case rel => exact ⟨k + 1, by omega, by go_num, by rw [HSn.out]; exact congrArg (Value.int .i64) (by omega), HO2.out, HB2.out⟩
          case measure => simp [intOf]; omega
        | app rs =>
          unfold TV at htv
          obtain ⟨b2, a2, cp2, rfl, hb2, _, h4, _, _, _⟩ := htv
          have h4r := (HB6.out.cell (p := ⟨b2, 1, none⟩) (HA.out b2 hb2)).trans h4
          simp only [Tr.size] at hsn HSn
          have hwr : IntKind.i64.wrap ((p : Int) + 1 + S + ((1 + sizes rs : Nat) : Int)) = ((p + 1 + (S + (1 + sizes rs)) : Nat) : Int) := by rw [IntWalk.i64_in _ ⟨by omega, by omega⟩]; omega
          go_wp2_with (first
            | (at_builtin; refine wpList_append_run rfl _ _ _ rfl _ _ rfl rfl HR6.out ?_))
          refine (appNodes_any b2 _ w6 h4r).mono ?_
          rintro e w2 ⟨rfl, hw2⟩
          have hw8 := hw2.symm
          subst hw8
          clear hw2
          go_wp2
          go_roundw
          case rel => exact ⟨k + 1, by omega, by go_num, by rw [HSn.out]; exact congrArg (Value.int .i64) (by omega), HO6.out, HB6.out⟩
          case measure => simp [intOf]; omega
      · have hke : k = ts.length := by omega
        subst hke
        rw [List.take_length] at HOw
        go_wp2
        go_ret
        exact ⟨_, rfl, HOw.out, HBl.out⟩

end Go.Proofs.YtdjmjhlbjcgoiaaGreatDoor

/- Where the term at a place ends; endOf walked. -/
namespace Go.Proofs.YtdjmjhlbjcgoiaaGreatDoor
open Go.RowKit Go.Maps

/-- A part of a row. -/
theorem Is.mid {w : World} {b off cap k m : Nat} {t : List Int} (h : Is w (.slice (some ⟨b, off, none⟩) t.length cap) t) (hk : k < t.length) (hm : k + m ≤ t.length) : Is w (.slice (some ⟨b, off + k, none⟩) m (cap - k)) ((t.drop k).take m) := by
  obtain ⟨ao, cap', e, h1, h2, h3⟩ := h
  simp only [Value.slice.injEq, true_and] at e
  obtain ⟨rfl, rfl⟩ := e
  obtain ⟨g, o, e, hg, hE⟩ := h3 (by omega)
  simp only [Option.some.injEq, Addr.mk.injEq, and_true] at e
  obtain ⟨rfl, rfl⟩ := e
  have hl : ((t.drop k).take m).length = m := by rw [List.length_take, List.length_drop]; omega
  refine ⟨some ⟨b, off + k, none⟩, cap - k, by rw [hl], by omega, by omega, fun _ => ⟨b, off + k, rfl, hg, fun j x hj => ?_⟩⟩
  have hjl := (List.getElem?_eq_some_iff.1 hj).1
  rw [List.getElem?_take_of_lt (by omega), List.getElem?_drop] at hj
  have := hE (k + j) x hj
  rw [show off + k + j * 1 = off + (k + j) * 1 by omega]
  exact this

/-- What is found at a row's head is a right term by itself. -/
theorem first_take {sig : List Sy} : ∀ (r : List Int) (m : Int) (i : Nat) (n : Int), firstT sig m i r = (n, 0) → ∃ k : Nat, n = (i : Int) + k ∧ 1 ≤ k ∧ k ≤ r.length ∧ firstT sig m i (r.take k) = (n, 0)
  | [], m, i, n, h => by simp [firstT] at h
  | c :: r, m, i, n, h => by
    rw [firstT_cons] at h
    cases hc : codeD sig c with
    | none => rw [hc] at h; simp at h
    | some e =>
      rw [hc] at h
      simp only at h
      by_cases h0 : m + e = 0
      · rw [if_pos h0] at h
        refine ⟨1, ?_, Nat.le_refl _, by simp, ?_⟩
        · have := congrArg Prod.fst h
          simp only at this
          omega
        · rw [List.take_succ_cons, List.take_zero, firstT_cons, hc]
          simp only
          rw [if_pos h0]
          exact h
      · rw [if_neg h0] at h
        obtain ⟨k, h1, h2, h3, h4⟩ := first_take r (m + e) (i + 1) n h
        refine ⟨k + 1, by omega, by omega, by simp; omega, ?_⟩
        rw [List.take_succ_cons, firstT_cons, hc]
        simp only
        rw [if_neg h0]
        exact h4

/-- Where the term at a place ends, and what is wrong. -/
def endP (sig : List Sy) (t : List Int) (p : Int) : Int × Int := if p < 0 ∨ (t.length : Int) ≤ p then (0, 33) else (p + (firstT sig 1 0 (t.drop p.toNat)).1, (firstT sig 1 0 (t.drop p.toNat)).2)

theorem endP_ok {sig : List Sy} {t : List Int} {p n : Int} (h : endP sig t p = (n, 0)) : ∃ k m : Nat, p = k ∧ k < t.length ∧ 1 ≤ m ∧ n = ((k + m : Nat) : Int) ∧ k + m ≤ t.length ∧ rowE sig ((t.drop k).take m) = 0 := by
  unfold endP at h
  by_cases hp : p < 0 ∨ (t.length : Int) ≤ p
  · rw [if_pos hp] at h
    simp at h
  · rw [if_neg hp] at h
    obtain ⟨k, rfl⟩ : ∃ k : Nat, p = k := ⟨p.toNat, by omega⟩
    rw [Int.toNat_natCast] at h
    simp only [Prod.mk.injEq] at h
    obtain ⟨m, h1, h2, h3, h4⟩ := first_take (t.drop k) 1 0 (firstT sig 1 0 (t.drop k)).1 (Prod.ext rfl h.2)
    simp only [Int.natCast_zero, Int.zero_add] at h1
    rw [List.length_drop] at h3
    refine ⟨k, m, rfl, by omega, h2, by omega, by omega, ?_⟩
    rw [row_first, h4, List.length_take, List.length_drop]
    simp only [Prod.mk.injEq, and_true]
    rw [h1]
    omega

theorem first_rng {sig : List Sy} : ∀ (r : List Int) (m : Int) (i : Nat), 0 ≤ (firstT sig m i r).1 ∧ (firstT sig m i r).1 ≤ (i : Int) + r.length
  | [], m, i => by simp [firstT]
  | c :: r, m, i => by
    rw [firstT_cons]
    cases hc : codeD sig c with
    | none => simp; omega
    | some e =>
      simp only
      by_cases h0 : m + e = 0
      · rw [if_pos h0]; simp; omega
      · rw [if_neg h0]
        have := first_rng (sig := sig) r (m + e) (i + 1)
        simp only [List.length_cons]
        omega

set_option maxRecDepth 100000 in
set_option maxHeartbeats 800000 in
theorem endOf_any (sv v : Value) (sig : List Sy) (t : List Int) (p : Int) (w : World) (hs : Sg w sv sig) (h : Is w v t) (ha : ArOk sig) (hb : t.length * 8 ≤ 140737488351232) (hp1 : -9223372036854775808 ≤ p) (hp2 : p ≤ 9223372036854775807) :
    Calls Tryz.prog 58 #[sv, v, .int .i64 p] w fun e w' => e = .returned (.tuple #[.int .i64 (endP sig t p).1, .int .i64 (endP sig t p).2]) ∧ w' = w := by
  obtain ⟨ao, cap, rfl, hao, hca, q0⟩ := Row.flat h
  unfold maxLen at hca
  have HS := hid hs
  have HI := hid h
  have HA := hid ha
  clear hs h ha q0
  by_cases hlo : p < 0
  · have HE : Hid (endP sig t p = (0, 33)) := by show _ = _; unfold endP; rw [if_pos (.inl hlo)]
    go_enter Tryz.func58, Tryz.ntmps58
    go_wp2
    go_ret2
    exact ⟨by rw [HE.out]; rfl, rfl⟩
  · obtain ⟨k, rfl⟩ : ∃ k : Nat, p = k := ⟨p.toNat, by omega⟩
    by_cases hhi : t.length ≤ k
    · have HE : Hid (endP sig t k = (0, 33)) := by show _ = _; unfold endP; rw [if_pos (.inr (by omega))]
      go_enter Tryz.func58, Tryz.ntmps58
      go_wp2
      go_ret2
      exact ⟨by rw [HE.out]; rfl, rfl⟩
    · have HE : Hid (endP sig t k = ((k : Int) + (firstT sig 1 0 (t.drop k)).1, (firstT sig 1 0 (t.drop k)).2)) := by show _ = _; unfold endP; rw [if_neg (by omega), Int.toNat_natCast]
      obtain ⟨b, off, c0, rfl, _⟩ := HI.out.at (k := 0) (by omega)
      have hI2 := HI.out.mid (k := k) (m := t.length - k) (by omega) (by omega)
      rw [List.take_of_length_le (by rw [List.length_drop]; exact Nat.le_refl _)] at hI2
      have HI2 := hid hI2
      have hrg := first_rng (sig := sig) (t.drop k) 1 0
      rw [List.length_drop] at hrg
      have hlt : k < t.length := by omega
      have hck : ¬ cap = k := by omega
      obtain ⟨N, hN⟩ : ∃ N, N = (firstT sig 1 0 (t.drop k)).1 := ⟨_, rfl⟩
      rw [← hN] at hrg HE
      have hw : IntKind.i64.wrap ((k : Int) + N) = (k : Int) + N := IntWalk.i64_in _ ⟨by omega, by omega⟩
      have HN := hid hN
      clear hI2 hN hhi
      go_enter Tryz.func58, Tryz.ntmps58
      go_wp2_with fail
      refine (firstTerm_any _ _ sig (t.drop k) w HS.out HI2.out HA.out (by rw [List.length_drop]; omega)).mono ?_
      rintro e w2 ⟨rfl, hw2⟩
      have hw8 := hw2.symm
      subst hw8
      clear hw2
      rw [← HN.out]
      go_wp2
      go_ret2
      exact ⟨by rw [HE.out]; rfl, rfl⟩

end Go.Proofs.YtdjmjhlbjcgoiaaGreatDoor

/- Kids and Sub walked. -/
namespace Go.Proofs.YtdjmjhlbjcgoiaaGreatDoor
open Go.RowKit Go.Maps

theorem empty_ints (w : World) {base : Nat} (hb : base ≤ w.heap.size) : (w.alloc (.cells #[] 3)).ownsRow base 3 1 (.slice (some ⟨w.heap.size, 0, none⟩) 0 0) 0 [] :=
  ⟨rfl, .inr ⟨w.heap.size, 0, #[], rfl, hb, heap_alloc_new _ _, Nat.le_refl _, by simp [maxLen], by simp, by simp⟩⟩

set_option maxRecDepth 100000 in
set_option maxHeartbeats 800000 in
theorem cloneI_any (v : Value) (t : List Int) (w : World) (h : Is w v t) (h0 : 0 < t.length) (hl : t.length * 8 ≤ 140737488355328) :
    Calls Tryz.prog 61 #[v] w fun e w' => ∃ v', e = .returned v' ∧ OwI w' w.heap.size v' t ∧ Below w.heap.size w w' := by
  have hq : ∀ (W : World) (a : Option Addr) (n c n' c' : Nat), (binOp .eql 30 (.slice a n c) (.slice none n' c')).run Tryz.prog W = .ok (.bool a.isNone) W := fun W a n c n' c' => Lib.run_eql_slice_nil W _ _ a n c n' c' under_ints
  obtain ⟨ao, cap, rfl, hao, hca, q0⟩ := Row.flat h
  obtain ⟨g, off, c0, rfl, _⟩ := h.at h0
  obtain ⟨v', w', hr, ho, hg⟩ := join_ints 30 (w := w.alloc (.cells #[] 3)) (base := w.heap.size) (x := .slice (some ⟨w.heap.size, 0, none⟩) 0 0) (xs := []) ⟨fun k x hk => (by simp at hk), empty_ints w (Nat.le_refl _)⟩ (h.kp (Kp.of_below (below_alloc _))) (below_alloc _).size (by simp; omega)
  rw [List.nil_append] at ho
  have HR := hid hr
  have HO := hid ho
  have HB := hid (grown_below (below_alloc _) hg (Nat.le_refl _))
  clear hr ho hg q0 h
  go_enter Tryz.func61, Tryz.ntmps61
  go_wp2_with (first
    | (at_builtin; refine wpList_append_run rfl _ _ _ rfl _ _ rfl rfl HR.out ?_))
  go_ret
  exact ⟨_, rfl, HO.out, HB.out⟩

/-- What is wrong with a term and a place; the term there; its arguments' places. -/
def placeE (sig : List Sy) (t : List Int) (p : Int) : Int := if termE sig t = 0 then (endP sig t p).2 else termE sig t

def subL (sig : List Sy) (t : List Int) (p : Int) : List Int := if placeE sig t p = 0 then (t.drop p.toNat).take ((endP sig t p).1.toNat - p.toNat) else []

def kidsL (sig : List Sy) (t : List Int) (p : Int) : List Int := match growR sig (subL sig t p) with | [T] => kidsR p.toNat T | _ => []

theorem placeE_ok {sig : List Sy} {t : List Int} {p : Int} (h : placeE sig t p = 0) : ArOk sig ∧ rowE sig t = 0 ∧ ∃ k m : Nat, p = k ∧ k < t.length ∧ 1 ≤ m ∧ endP sig t p = (((k + m : Nat) : Int), 0) ∧ k + m ≤ t.length ∧ subL sig t p = (t.drop k).take m ∧ rowE sig ((t.drop k).take m) = 0 := by
  have h0 := h
  unfold placeE at h
  by_cases ht : termE sig t = 0
  · rw [if_pos ht] at h
    have hsg : sigE sig = 0 := by
      unfold termE at ht
      by_cases hs : sigE sig = 0
      · exact hs
      · rw [if_neg hs] at ht; exact ht
    have hrw : rowE sig t = 0 := by unfold termE at ht; rw [if_pos hsg] at ht; exact ht
    obtain ⟨k, m, h1, h2, h3, h4, h5, h6⟩ := endP_ok (Prod.ext rfl h : endP sig t p = ((endP sig t p).1, 0))
    refine ⟨sigE_ok hsg, hrw, k, m, h1, h2, h3, Prod.ext h4 h, h5, ?_, h6⟩
    unfold subL
    rw [if_pos h0, h4, h1, Int.toNat_natCast, Int.toNat_natCast, show k + m - k = m by omega]
  · rw [if_neg ht] at h
    exact absurd h ht

theorem kidsL_bad {sig : List Sy} {t : List Int} {p : Int} (h : placeE sig t p ≠ 0) : kidsL sig t p = [] := by
  unfold kidsL subL
  rw [if_neg h]
  rfl

theorem subL_bad {sig : List Sy} {t : List Int} {p : Int} (h : placeE sig t p ≠ 0) : subL sig t p = [] := by
  unfold subL
  rw [if_neg h]

set_option maxRecDepth 100000 in
set_option maxHeartbeats 800000 in
theorem sub_any (sv v : Value) (sig : List Sy) (t : List Int) (p : Int) (w : World) (hs : Sg w sv sig) (h : Is w v t) (hT : Tabs w) (hb : t.length * 8 ≤ 140737488351232) (hp1 : -9223372036854775808 ≤ p) (hp2 : p ≤ 9223372036854775807) :
    Calls Tryz.prog 25 #[sv, v, .int .i64 p] w fun e w' => ∃ v', e = .returned (.tuple #[v', .int .i64 (placeE sig t p)]) ∧ OwI w' w.heap.size v' (subL sig t p) ∧ Below w.heap.size w w' := by
  have HS := hid hs
  have HI := hid h
  have HT := hid hT
  have HP := hid (And.intro hp1 hp2)
  clear hs h hT hp1 hp2
  go_enter Tryz.func25, Tryz.ntmps25
  go_wp2_with fail
  refine (check_any sv v sig t w HS.out HI.out HT.out hb).mono ?_
  rintro e w1 ⟨rfl, hb1⟩
  have HB1 := hid hb1
  clear hb1
  by_cases hte : termE sig t = 0
  · have HPl : Hid (placeE sig t p = (endP sig t p).2) := by show _ = _; unfold placeE; rw [if_pos hte]
    have ha : ArOk sig := by
      unfold termE at hte
      by_cases hs : sigE sig = 0
      · exact sigE_ok hs
      · rw [if_neg hs] at hte; exact absurd hte hs
    have HA := hid ha
    rw [hte]
    clear hte ha
    go_wp2_with fail
    refine (endOf_any sv v sig t p w1 (HS.out.kp (Kp.of_below HB1.out)) (HI.out.kp (Kp.of_below HB1.out)) HA.out hb HP.out.1 HP.out.2).mono ?_
    rintro e w2 ⟨rfl, hw2⟩
    have hw8 := hw2.symm
    subst hw8
    clear hw2
    by_cases he : (endP sig t p).2 = 0
    · obtain ⟨_, _, k, m, hk, hkl, hm1, hend, hkm, hsub, hrow⟩ := placeE_ok (HPl.out.trans he)
      subst hk
      have HE := hid (HPl.out.trans he)
      have HSub := hid hsub
      have hIm := HI.out.kp (Kp.of_below HB1.out)
      obtain ⟨ao, cap, rfl, hao, hca, q0⟩ := Row.flat HI.out
      obtain ⟨b, off, c0, rfl, _⟩ := HI.out.at (k := 0) (by omega)
      unfold maxLen at hca
      have hI2 := hIm.mid hkl hkm
      have hlm : ((t.drop k).take m).length = m := by rw [List.length_take, List.length_drop]; omega
      have HCl := hid (cloneI_any _ _ _ hI2 (by omega) (by rw [hlm]; omega))
      have hck : ¬ cap = k := by omega
      have hkm2 : k + m - k = m := by omega
      have hkc : k + m ≤ cap := by omega
      have hkc2 : k ≤ k + m := by omega
      rw [hend]
      clear hIm q0 hI2 hlm he hend hsub hrow
      go_wp2_with fail
      refine HCl.out.mono ?_
      rintro e w2 ⟨v', rfl, ho, hb2⟩
      have HO := hid (ho.mono HB1.out.size)
      have HB2 := hid (below_step HB1.out hb2)
      clear ho hb2
      go_wp2
      go_ret2
      exact ⟨_, by rw [HE.out]; rfl, by rw [HSub.out]; exact HO.out, HB2.out⟩
    · have HNe := hid (fun h => he (HPl.out.symm.trans h) : placeE sig t p ≠ 0)
      generalize (endP sig t p).2 = E at he HPl ⊢
      generalize (endP sig t p).1 = E1
      have heb : (E != 0) = true := by simpa using he
      go_wp2
      go_ret2
      exact ⟨_, by rw [HPl.out]; rfl, by rw [subL_bad HNe.out]; exact nilI _ _, HB1.out⟩
  · have HPl : Hid (placeE sig t p = termE sig t) := by show _ = _; unfold placeE; rw [if_neg hte]
    have HNe := hid (fun h => hte (HPl.out.symm.trans h) : placeE sig t p ≠ 0)
    generalize termE sig t = E at hte HPl ⊢
    have heb : (E != 0) = true := by simpa using hte
    go_wp2
    go_ret2
    exact ⟨_, by rw [HPl.out]; rfl, by rw [subL_bad HNe.out]; exact nilI _ _, HB1.out⟩

set_option maxRecDepth 100000 in
set_option maxHeartbeats 800000 in
theorem kids_any (sv v : Value) (sig : List Sy) (t : List Int) (p : Int) (w : World) (hs : Sg w sv sig) (h : Is w v t) (hT : Tabs w) (hb : t.length * 16 ≤ 140737488351232) (hp1 : -9223372036854775808 ≤ p) (hp2 : p ≤ 9223372036854775807) :
    Calls Tryz.prog 24 #[sv, v, .int .i64 p] w fun e w' => ∃ v', e = .returned (.tuple #[v', .int .i64 (placeE sig t p)]) ∧ OwI w' w.heap.size v' (kidsL sig t p) ∧ Below w.heap.size w w' := by
  have HS := hid hs
  have HI := hid h
  have HT := hid hT
  have HP := hid (And.intro hp1 hp2)
  clear hs h hT hp1 hp2
  go_enter Tryz.func24, Tryz.ntmps24
  go_wp2_with fail
  refine (check_any sv v sig t w HS.out HI.out HT.out (by omega)).mono ?_
  rintro e w1 ⟨rfl, hb1⟩
  have HB1 := hid hb1
  clear hb1
  by_cases hte : termE sig t = 0
  · have HPl : Hid (placeE sig t p = (endP sig t p).2) := by show _ = _; unfold placeE; rw [if_pos hte]
    have ha : ArOk sig := by
      unfold termE at hte
      by_cases hs : sigE sig = 0
      · exact sigE_ok hs
      · rw [if_neg hs] at hte; exact absurd hte hs
    have HA := hid ha
    rw [hte]
    clear hte ha
    go_wp2_with fail
    refine (endOf_any sv v sig t p w1 (HS.out.kp (Kp.of_below HB1.out)) (HI.out.kp (Kp.of_below HB1.out)) HA.out (by omega) HP.out.1 HP.out.2).mono ?_
    rintro e w2 ⟨rfl, hw2⟩
    have hw8 := hw2.symm
    subst hw8
    clear hw2
    by_cases he : (endP sig t p).2 = 0
    · obtain ⟨_, _, k, m, hk, hkl, hm1, hend, hkm, hsub, hrow⟩ := placeE_ok (HPl.out.trans he)
      subst hk
      have HE := hid (HPl.out.trans he)
      have HSub := hid hsub
      have hIm := HI.out.kp (Kp.of_below HB1.out)
      obtain ⟨ao, cap, rfl, hao, hca, q0⟩ := Row.flat HI.out
      obtain ⟨b, off, c0, rfl, _⟩ := HI.out.at (k := 0) (by omega)
      unfold maxLen at hca
      have hI2 := hIm.mid hkl hkm
      have hlm : ((t.drop k).take m).length = m := by rw [List.length_take, List.length_drop]; omega
      have HGr := hid (grow_any sv _ sig _ _ (HS.out.kp (Kp.of_below HB1.out)) hI2 HA.out hrow (by rw [hlm]; omega))
      have hck : ¬ cap = k := by omega
      have hkm2 : k + m - k = m := by omega
      have hkc : k + m ≤ cap := by omega
      have hkc2 : k ≤ k + m := by omega
      rw [hend]
      clear hIm q0 hI2 hlm he hend hsub hrow
      go_wp2_with fail
      refine HGr.out.mono ?_
      rintro e w2 ⟨u, T, A, rfl, hgr, htv, hA, hb2⟩
      have HKl : Hid (kidsL sig t k = kidsR k T) := by show _ = _; unfold kidsL; rw [HSub.out, hgr, Int.toNat_natCast]
      have hsz : T.size = m := by
        have h1 := growR_sizes sig ((t.drop k).take m)
        rw [hgr, List.length_take, List.length_drop] at h1
        simp only [sizes] at h1
        omega
      have HKd := hid (kidsOf_any u T A k w2 htv (fun b hb => (hA b hb).2) (by omega) (by omega))
      have HB2 := hid (below_step HB1.out hb2)
      clear hgr htv hA hb2 hsz HGr
      go_wp2_with fail
      refine HKd.out.mono ?_
      rintro e w3 ⟨v', rfl, ho, hb3⟩
      have HO := hid (ho.mono HB2.out.size)
      have HB3 := hid (below_step HB2.out hb3)
      clear ho hb3 HKd
      go_wp2
      go_ret2
      exact ⟨_, by rw [HE.out]; rfl, by rw [HKl.out]; exact HO.out, HB3.out⟩
    · have HNe := hid (fun h => he (HPl.out.symm.trans h) : placeE sig t p ≠ 0)
      generalize (endP sig t p).2 = E at he HPl ⊢
      generalize (endP sig t p).1 = E1
      have heb : (E != 0) = true := by simpa using he
      go_wp2
      go_ret2
      exact ⟨_, by rw [HPl.out]; rfl, by rw [kidsL_bad HNe.out]; exact nilI _ _, HB1.out⟩
  · have HPl : Hid (placeE sig t p = termE sig t) := by show _ = _; unfold placeE; rw [if_neg hte]
    have HNe := hid (fun h => hte (HPl.out.symm.trans h) : placeE sig t p ≠ 0)
    generalize termE sig t = E at hte HPl ⊢
    have heb : (E != 0) = true := by simpa using hte
    go_wp2
    go_ret2
    exact ⟨_, by rw [HPl.out]; rfl, by rw [kidsL_bad HNe.out]; exact nilI _ _, HB1.out⟩

end Go.Proofs.YtdjmjhlbjcgoiaaGreatDoor

/- A term's arguments, one behind the other. -/
namespace Go.Proofs.YtdjmjhlbjcgoiaaGreatDoor
open Go.RowKit Go.Maps

/-- What stands at the head of a row of terms. -/
theorem first_part {sig : List Sy} (ha : ArOk sig) : ∀ (r : List Int) (d m : Int) (j i : Nat), 1 ≤ d → d ≤ m → firstT sig m i r = ((i : Int) + r.length, 0) →
    ∃ k : Nat, 1 ≤ k ∧ k ≤ r.length ∧ firstT sig d j r = ((j : Int) + k, 0) ∧ (m = d → k = r.length) ∧ (d < m → firstT sig (m - d) (i + k) (r.drop k) = ((i : Int) + r.length, 0))
  | [], d, m, j, i, _, _, h => by simp [firstT] at h
  | c :: r, d, m, j, i, hd, hm, h => by
    rw [firstT_cons] at h ⊢
    cases hc : codeD sig c with
    | none => rw [hc] at h; simp at h
    | some e =>
      have he := codeD_ge ha hc
      rw [hc] at h
      simp only at h ⊢
      by_cases h0 : m + e = 0
      · rw [if_pos h0] at h
        have hl : r.length = 0 := by
          have := congrArg Prod.fst h
          simp at this
          omega
        refine ⟨1, Nat.le_refl _, by simp, by rw [if_pos (by omega)]; simp, fun _ => by simp [hl], fun h1 => by omega⟩
      · rw [if_neg h0] at h
        by_cases h1 : d + e = 0
        · refine ⟨1, Nat.le_refl _, by simp, by rw [if_pos h1]; simp, fun h2 => by omega, fun h2 => ?_⟩
          rw [List.drop_succ_cons, List.drop_zero, show m - d = m + e by omega]
          exact h
        · obtain ⟨k, k1, k2, k3, k4, k5⟩ := first_part ha r (d + e) (m + e) (j + 1) (i + 1) (by omega) (by omega) (by rw [h]; simp only [List.length_cons, Prod.mk.injEq, and_true]; omega)
          refine ⟨k + 1, by omega, by simp; omega, by rw [if_neg h1, k3]; simp only [Prod.mk.injEq, and_true]; omega, fun h2 => by have := k4 (by omega); simp; omega, fun h2 => ?_⟩
          have h3 := k5 (by omega)
          rw [List.drop_succ_cons, show m - d = m + e - (d + e) by omega, show i + (k + 1) = i + 1 + k by omega, h3]
          simp only [List.length_cons, Prod.mk.injEq, and_true]
          omega

/-- A row of m terms is taken apart. -/
theorem split_first {sig : List Sy} (ha : ArOk sig) : ∀ (m : Nat) (r : List Int) (i : Nat), 1 ≤ m → firstT sig m i r = ((i : Int) + r.length, 0) → ∃ us : List (List Int), us.length = m ∧ r = us.flatten ∧ ∀ u ∈ us, rowE sig u = 0
  | 0, _, _, h, _ => absurd h (by omega)
  | m + 1, r, i, _, h => by
    obtain ⟨k, k1, k2, k3, k4, k5⟩ := first_part ha r 1 ((m + 1 : Nat) : Int) 0 i (by omega) (by omega) h
    obtain ⟨k', e1, _, _, e4⟩ := first_take r 1 0 _ k3
    have hkk : k' = k := by omega
    subst hkk
    have hr : rowE sig (r.take k') = 0 := by
      rw [row_first, e4, List.length_take]
      simp only [Prod.mk.injEq, and_true]
      omega
    by_cases hm : m = 0
    · subst hm
      have := k4 (by omega)
      refine ⟨[r], rfl, by simp, fun u hu => ?_⟩
      rw [List.mem_singleton] at hu
      subst hu
      rw [List.take_of_length_le (by omega)] at hr
      exact hr
    · have h5 := k5 (by omega)
      rw [show ((m + 1 : Nat) : Int) - 1 = (m : Int) by omega] at h5
      obtain ⟨us, u1, u2, u3⟩ := split_first ha m (r.drop k') (i + k') (by omega) (by rw [h5, List.length_drop]; simp only [Prod.mk.injEq, and_true]; omega)
      refine ⟨r.take k' :: us, by simp [u1], by rw [List.flatten_cons, ← u2, List.take_append_drop], fun u hu => ?_⟩
      rcases List.mem_cons.1 hu with rfl | hu
      · exact hr
      · exact u3 u hu

/-- What grows of a row behind another one. -/
theorem grow_behind {sig : List Sy} (ha : ArOk sig) (v : List Int) : ∀ (u p : List Int), firstT sig 1 0 (p ++ u) = (((p ++ u).length : Int), 0) → growR sig (u ++ v) = growR sig v ++ growR sig u
  | [], p, _ => by simp [growR]
  | c :: u, p, h => by
    have ih := grow_behind ha v u (p ++ [c]) (by simpa using h)
    show growStep sig (growR sig (u ++ v)) c = growR sig v ++ growStep sig (growR sig u) c
    rw [ih]
    unfold growStep
    by_cases hc : c < 0
    · rw [if_pos hc, if_pos hc, List.append_assoc]
    · rw [if_neg hc, if_neg hc]
      obtain ⟨_, h2⟩ := grow_code ha p c u 1 0 (by omega) (by rw [h]; simp) hc
      rw [List.length_append, show (growR sig v).length + (growR sig u).length - arN sig c = (growR sig v).length + ((growR sig u).length - arN sig c) by omega, List.take_length_add_append, List.drop_length_add_append, List.append_assoc]

/-- The trees of terms one behind the other. -/
theorem grow_flat {sig : List Sy} (ha : ArOk sig) : ∀ us : List (List Int), (∀ u ∈ us, rowE sig u = 0) → (growR sig us.flatten).reverse.map Tr.size = us.map List.length
  | [], _ => by simp [growR]
  | u :: us, h => by
    obtain ⟨T, h1, h2⟩ := grow_one ha (h u (by simp))
    have h3 := grow_behind ha us.flatten u [] (by rw [List.nil_append]; exact row_first.1 (h u (by simp)))
    rw [List.flatten_cons, h3, h1, List.reverse_append, List.map_append, grow_flat ha us (fun x hx => h x (by simp [hx]))]
    simp [h2]

/-- Places by lengths. -/
def places : Nat → List Nat → List Int
  | _, [] => []
  | p, n :: ns => (p : Int) :: places (p + n) ns

theorem kids_places : ∀ (p : Nat) (ts : List Tr), kidsGo p ts = places p (ts.map Tr.size)
  | _, [] => rfl
  | p, t :: ts => by simp only [kidsGo, List.map_cons, places, kids_places (p + t.size) ts]

theorem places_at : ∀ (us : List (List Int)) (p k : Nat), k < us.length → (places p (us.map List.length))[k]? = some ((p + (us.take k).flatten.length : Nat) : Int)
  | [], _, k, h => by simp at h
  | u :: us, p, 0, _ => by simp [places]
  | u :: us, p, k + 1, h => by
    rw [List.map_cons, places, List.getElem?_cons_succ, places_at us (p + u.length) k (by simpa using h), List.take_succ_cons, List.flatten_cons, List.length_append]
    simp only [Option.some.injEq]
    omega

theorem term_parts {sig : List Sy} {t : List Int} (h : termE sig t = 0) : sigE sig = 0 ∧ rowE sig t = 0 := by
  unfold termE at h
  by_cases hs : sigE sig = 0
  · rw [if_pos hs] at h; exact ⟨hs, h⟩
  · rw [if_neg hs] at h; exact absurd h hs

/-- The term that stands at a place. -/
theorem sub_at {sig : List Sy} {t p u q : List Int} (ht : termE sig t = 0) (hu : rowE sig u = 0) (he : t = p ++ (u ++ q)) : placeE sig t p.length = 0 ∧ subL sig t p.length = u := by
  have ha := sigE_ok (term_parts ht).1
  have h1 := first_app ha u 1 0 (by omega) (by rw [row_first.1 hu]; simp) 1 0 q (by omega)
  rw [if_pos rfl] at h1
  have hul : 0 < u.length := by
    cases u with
    | nil => simp [rowE, firstT] at hu
    | cons c u => simp
  have h2 : endP sig t p.length = (((p.length + u.length : Nat) : Int), 0) := by
    unfold endP
    rw [if_neg (by rw [he, List.length_append, List.length_append]; omega), Int.toNat_natCast, he, List.drop_left, h1]
    simp only [Prod.mk.injEq, and_true]
    omega
  have h3 : placeE sig t p.length = 0 := by unfold placeE; rw [if_pos ht, h2]
  refine ⟨h3, ?_⟩
  unfold subL
  rw [if_pos h3, h2, Int.toNat_natCast, Int.toNat_natCast, show p.length + u.length - p.length = u.length by omega, he, List.drop_left, List.take_left]

end Go.Proofs.YtdjmjhlbjcgoiaaGreatDoor

/- Like monomials brought together, as plain data: rows of keys (bytes) with their limbs, rising. -/
namespace Go.Proofs.YtdjmjhlbjcgoiaaGreatDoor

/-- Which of two rows of bytes comes first (of one length). -/
def cmpK : List Nat → List Nat → Int
  | [], [] => 0
  | [], _ :: _ => -1
  | _ :: _, [] => 1
  | a :: r, b :: q => if a < b then -1 else if b < a then 1 else cmpK r q

abbrev ltK (a b : List Nat) : Prop := cmpK a b < 0

theorem cmpK_self (a : List Nat) : cmpK a a = 0 := by
  induction a with
  | nil => rfl
  | cons a r ih => simp [cmpK, ih]

theorem cmpK_zero {a b : List Nat} (h : cmpK a b = 0) : a = b := by
  induction a generalizing b with
  | nil => cases b with
    | nil => rfl
    | cons b q => simp [cmpK] at h
  | cons a r ih => cases b with
    | nil => simp [cmpK] at h
    | cons b q =>
      unfold cmpK at h
      split at h
      · omega
      · split at h
        · omega
        · rw [ih h, show a = b by omega]

theorem cmpK_swap (a b : List Nat) : cmpK b a = -cmpK a b := by
  induction a generalizing b with
  | nil => cases b <;> simp [cmpK]
  | cons a r ih => cases b with
    | nil => simp [cmpK]
    | cons b q =>
      unfold cmpK
      by_cases h1 : a < b
      · rw [if_neg (by omega), if_pos h1, if_pos h1]; rfl
      · by_cases h2 : b < a
        · rw [if_pos h2, if_neg h1, if_pos h2]
        · rw [if_neg h2, if_neg h1, if_neg h1, if_neg h2, ih]

theorem ltK_trans {a b c : List Nat} (h : ltK a b) (h' : ltK b c) : ltK a c := by
  unfold ltK at *
  induction a generalizing b c with
  | nil => cases b with
    | nil => exact h'
    | cons b q => cases c with
      | nil => simp [cmpK] at h'
      | cons c s => simp [cmpK]
  | cons a r ih => cases b with
    | nil => simp [cmpK] at h
    | cons b q => cases c with
      | nil => simp [cmpK] at h'
      | cons c s =>
        unfold cmpK at h h' ⊢
        by_cases h1 : a < b
        · by_cases h2 : b < c
          · rw [if_pos (by omega)]; omega
          · rw [if_neg h2] at h'
            by_cases h3 : c < b
            · rw [if_pos h3] at h'; omega
            · rw [if_pos (by omega)]; omega
        · rw [if_neg h1] at h
          by_cases h4 : b < a
          · rw [if_pos h4] at h; omega
          · rw [if_neg h4] at h
            obtain rfl : a = b := by omega
            by_cases h2 : a < c
            · rw [if_pos h2]; omega
            · rw [if_neg h2] at h' ⊢
              by_cases h3 : c < a
              · rw [if_pos h3] at h'; omega
              · rw [if_neg h3] at h' ⊢
                exact ih h h'

theorem ltK_irrefl (a : List Nat) : ¬ ltK a a := by unfold ltK; rw [cmpK_self]; omega

theorem ltK_or {a b : List Nat} (h : ¬ a = b) (h' : ¬ ltK a b) : ltK b a := by
  unfold ltK at *
  have h1 := cmpK_swap a b
  have h2 : ¬ cmpK a b = 0 := fun e => h (cmpK_zero e)
  omega

abbrev LkY := List (List Nat × List Nat)

def Rising (L : LkY) : Prop := L.Pairwise (fun p q => ltK p.1 q.1)

/-- The limbs at a key; none: there is no such one. -/
def coefK (L : LkY) (k : List Nat) : List Nat := ((L.find? (fun p => p.1 == k)).map (·.2)).getD []

def hasK (L : LkY) (k : List Nat) : Bool := L.any (fun p => p.1 == k)

/-- Limbs laid at a key. -/
def insK : LkY → List Nat → List Nat → LkY
  | [], k, c => [(k, c)]
  | p :: r, k, c => if k = p.1 then (k, c) :: r else if ltK k p.1 then (k, c) :: p :: r else p :: insK r k c

theorem mem_insK {L : LkY} {k c : List Nat} (hL : Rising L) (q : List Nat × List Nat) : q ∈ insK L k c ↔ q = (k, c) ∨ (q ∈ L ∧ ¬ q.1 = k) := by
  induction L with
  | nil => simp [insK]
  | cons p r ih =>
    unfold Rising at hL
    rw [List.pairwise_cons] at hL
    have ih := ih hL.2
    unfold insK
    by_cases h1 : k = p.1
    · rw [if_pos h1]
      simp only [List.mem_cons]
      constructor
      · rintro (h | h)
        · exact .inl h
        · refine .inr ⟨.inr h, fun e => ?_⟩
          have := hL.1 q h
          rw [e, h1] at this
          exact ltK_irrefl _ this
      · rintro (h | ⟨h | h, h2⟩)
        · exact .inl h
        · exact absurd (by rw [h, h1]) h2
        · exact .inr h
    · rw [if_neg h1]
      by_cases h2 : ltK k p.1
      · rw [if_pos h2]
        simp only [List.mem_cons]
        constructor
        · rintro (h | h | h)
          · exact .inl h
          · exact .inr ⟨.inl h, by rw [h]; exact fun e => h1 e.symm⟩
          · refine .inr ⟨.inr h, fun e => ?_⟩
            have := hL.1 q h
            rw [e] at this
            exact ltK_irrefl _ (ltK_trans h2 this)
        · rintro (h | ⟨h | h, _⟩)
          · exact .inl h
          · exact .inr (.inl h)
          · exact .inr (.inr h)
      · rw [if_neg h2]
        simp only [List.mem_cons, ih]
        constructor
        · rintro (h | h | ⟨h, h3⟩)
          · exact .inr ⟨.inl h, by rw [h]; exact fun e => h1 e.symm⟩
          · exact .inl h
          · exact .inr ⟨.inr h, h3⟩
        · rintro (h | ⟨h | h, h3⟩)
          · exact .inr (.inl h)
          · exact .inl h
          · exact .inr (.inr ⟨h, h3⟩)

theorem rising_insK {L : LkY} {k c : List Nat} (hL : Rising L) : Rising (insK L k c) := by
  induction L with
  | nil => simp [insK, Rising]
  | cons p r ih =>
    have hL' := hL
    unfold Rising at hL
    rw [List.pairwise_cons] at hL
    unfold insK
    by_cases h1 : k = p.1
    · rw [if_pos h1]
      unfold Rising
      rw [List.pairwise_cons]
      exact ⟨fun q hq => by show ltK k q.1; rw [h1]; exact hL.1 q hq, hL.2⟩
    · rw [if_neg h1]
      by_cases h2 : ltK k p.1
      · rw [if_pos h2]
        unfold Rising
        rw [List.pairwise_cons]
        refine ⟨fun q hq => ?_, hL'⟩
        show ltK k q.1
        rcases List.mem_cons.1 hq with rfl | hq
        · exact h2
        · exact ltK_trans h2 (hL.1 q hq)
      · rw [if_neg h2]
        unfold Rising
        rw [List.pairwise_cons]
        refine ⟨fun q hq => ?_, ih hL.2⟩
        rcases (mem_insK hL.2 q).1 hq with rfl | ⟨hq, _⟩
        · exact ltK_or h1 h2
        · exact hL.1 q hq

theorem hasK_iff {L : LkY} {k : List Nat} : hasK L k = true ↔ ∃ c, (k, c) ∈ L := by
  unfold hasK
  rw [List.any_eq_true]
  constructor
  · rintro ⟨⟨k', c⟩, h, e⟩
    have : k' = k := by simpa using e
    subst this
    exact ⟨c, h⟩
  · rintro ⟨c, h⟩
    exact ⟨(k, c), h, by simp⟩

theorem length_insK {L : LkY} {k c : List Nat} (hL : Rising L) : (insK L k c).length = if hasK L k then L.length else L.length + 1 := by
  induction L with
  | nil => simp [insK, hasK]
  | cons p r ih =>
    unfold Rising at hL
    rw [List.pairwise_cons] at hL
    have ih := ih hL.2
    unfold insK
    by_cases h1 : k = p.1
    · rw [if_pos h1]
      have : hasK (p :: r) k = true := by simp [hasK, h1]
      rw [this]; simp
    · rw [if_neg h1]
      have hb : (p.1 == k) = false := by rw [beq_eq_false_iff_ne]; exact fun e => h1 e.symm
      have hc : hasK (p :: r) k = hasK r k := by simp [hasK, hb]
      by_cases h2 : ltK k p.1
      · rw [if_pos h2]
        have : hasK (p :: r) k = false := by
          rw [Bool.eq_false_iff]
          intro h
          rw [hc, hasK_iff] at h
          obtain ⟨c', h⟩ := h
          exact ltK_irrefl _ (ltK_trans h2 (hL.1 _ h))
        rw [this]; simp
      · rw [if_neg h2, hc, List.length_cons, ih]
        split <;> simp

theorem coefK_mem {L : LkY} {k c : List Nat} (hL : Rising L) (h : (k, c) ∈ L) : coefK L k = c := by
  induction L with
  | nil => cases h
  | cons p r ih =>
    unfold Rising at hL
    rw [List.pairwise_cons] at hL
    rcases List.mem_cons.1 h with rfl | h
    · simp [coefK]
    · have hb : (p.1 == k) = false := by
        rw [beq_eq_false_iff_ne]
        intro e
        have := hL.1 _ h
        rw [e] at this
        exact ltK_irrefl _ this
      have := ih hL.2 h
      unfold coefK at this ⊢
      rw [List.find?_cons, hb]
      exact this

theorem coefK_none {L : LkY} {k : List Nat} (h : hasK L k = false) : coefK L k = [] := by
  unfold coefK
  rw [List.find?_eq_none.2]
  · rfl
  · intro p hp e
    have : hasK L k = true := List.any_eq_true.2 ⟨p, hp, e⟩
    rw [h] at this
    cases this

/-- What put answers, and what it leaves. -/
def putE (L : LkY) (k c : List Nat) : Int := if addE (coefK L k) c = 0 then (if (insK L k (addL (coefK L k) c)).length ≤ 256 then 0 else 2) else addE (coefK L k) c

def putL (L : LkY) (k c : List Nat) : LkY := if addE (coefK L k) c = 0 then insK L k (addL (coefK L k) c) else L

end Go.Proofs.YtdjmjhlbjcgoiaaGreatDoor

/- Rows of exponents as bytes: packed, unpacked, raised. -/
namespace Go.Proofs.YtdjmjhlbjcgoiaaGreatDoor
open Go.RowKit

/-- A row of bytes as an array's cells. -/
def arr (ks : List Nat) : Array Value := (ks.map fun (x : Nat) => Value.int .u8 (x : Int)).toArray

theorem arr_size (ks : List Nat) : (arr ks).size = ks.length := by simp [arr]

theorem arr_get {ks : List Nat} {k x : Nat} (h : ks[k]? = some x) : (arr ks)[k]? = some (.int .u8 (x : Int)) := by simp [arr, h]

theorem arr_one (ks : List Nat) : (arr ks).all (·.oneCell') = true := by
  rw [Array.all_eq_true_iff_forall_mem]
  intro v hv
  simp only [arr, List.mem_toArray, List.mem_map] at hv
  obtain ⟨x, _, rfl⟩ := hv
  rfl

def zeros : List Nat := List.replicate 512 0

set_option maxRecDepth 100000 in
theorem zero_cells : Tryz.zeroCells160 = arr zeros := by kernel_rfl

theorem len_zeros : zeros.length = 512 := List.length_replicate

/-- Block g holds a row of bytes. -/
def Ar (w : World) (g : Nat) (ks : List Nat) : Prop := w.heap[g]? = some (.cells (arr ks) 160 (0, 0))

theorem Ar.lt {w : World} {g : Nat} {ks : List Nat} (h : Ar w g ks) : g < w.heap.size := (Array.getElem?_eq_some_iff.1 h).1

theorem Ar.cell {w : World} {g : Nat} {ks : List Nat} (h : Ar w g ks) {k x : Nat} (hk : ks[k]? = some x) : w.cell? ⟨g, k, none⟩ = some (.int .u8 (x : Int)) := by
  rw [cell_of_row w g k _ _ _ h, arr_get hk]

theorem Ar.frozen {w : World} {g : Nat} {ks : List Nat} (h : Ar w g ks) (k : Nat) : w.frozen? ⟨g, k, none⟩ = false := by
  unfold Ar at h
  simp [World.frozen?, h]

theorem Ar.set {w : World} {g : Nat} {ks : List Nat} (h : Ar w g ks) (k x : Nat) : Ar (w.setCell ⟨g, k, none⟩ (.int .u8 (x : Int))) g (ks.set k x) := by
  unfold Ar at h ⊢
  rw [setCell_eq_setRow w g k _ _ _ _ h, setRow_heap w g _ _ _ _ h]
  congr 2
  simp [arr, List.map_set]

theorem Ar.below {w w' : World} {B g : Nat} {ks : List Nat} (h : Ar w g ks) (hb : Below B w w') (hg : g < B) : Ar w' g ks := (hb.block g hg).trans h

theorem Ar.later {w w' : World} {g : Nat} {ks : List Nat} (h : Ar w g ks) (hb : Below w.heap.size w w') : Ar w' g ks := h.below hb h.lt

theorem Ar.setOther {w : World} {g g' k : Nat} {ks : List Nat} {v : Value} (h : Ar w g ks) (hne : g ≠ g') : Ar (w.setCell ⟨g', k, none⟩ v) g ks := (Below.heap_setCell w ⟨g', k, none⟩ v g hne).trans h

theorem Ar.new (w : World) (ks : List Nat) : Ar (w.alloc (.cells (arr ks) 160)) w.heap.size ks := heap_alloc_new w _

/-- The exponents as a row of 512 bytes. -/
def keyX (es : List Int) : List Nat := es.map Int.toNat ++ List.replicate (512 - es.length) 0

/-- The same, as far as some place. -/
def keyTo (es : List Int) (k : Nat) : List Nat := (es.take k).map Int.toNat ++ List.replicate (512 - k) 0

theorem keyTo_full (es : List Int) : keyTo es es.length = keyX es := by simp [keyTo, keyX]

theorem keyTo_get {es : List Int} {k : Nat} (h : k < es.length) (h' : k < 512) : (keyTo es k)[k]? = some 0 := by
  unfold keyTo
  have hl : ((es.take k).map Int.toNat).length = k := by simp; omega
  rw [List.getElem?_append_right (by omega), hl, Nat.sub_self, List.getElem?_replicate, if_pos (by omega)]

theorem keyTo_step {es : List Int} {k : Nat} {x : Int} (h : es[k]? = some x) (h' : k < 512) : (keyTo es k).set k x.toNat = keyTo es (k + 1) := by
  have hk := (List.getElem?_eq_some_iff.1 h).1
  unfold keyTo
  rw [show 512 - k = (512 - (k + 1)) + 1 by omega, List.replicate_succ, set_mid _ _ _ _ _ (by simp; omega), take_getY h]
  simp

theorem keyX_len {es : List Int} (h : es.length ≤ 512) : (keyX es).length = 512 := by simp [keyX]; omega

theorem info_arr : (Tryz.prog.info? 160).map (·.size) = some 512 := by kernel_rfl

theorem under_arr : Tryz.prog.underlying 160 = some (.array 512 5) := by kernel_rfl

theorem Ar.put {w w0 : World} {g B : Nat} {ks : List Nat} (h : Ar w g ks) (hb : Below B w0 w) (hB : B ≤ g) {k z : Nat} {V : Int} (hV : V = (z : Int)) {ys : List Nat} (hys : ks.set k z = ys) :
    Ar (w.setCell ⟨g, k, none⟩ (.int .u8 V)) g ys ∧ Below B w0 (w.setCell ⟨g, k, none⟩ (.int .u8 V)) := by
  subst hV; subst hys
  exact ⟨h.set k z, hb.setCell (p := ⟨g, k, none⟩) hB _⟩

theorem below_setRowY {B : Nat} {a w : World} (h : Below B a w) {g : Nat} (hg : B ≤ g) {cs : Array Value} : Below B a (w.setRow g cs) :=
  h.trans ⟨rfl, rfl, rfl, by simp [World.setRow], fun k hk => setRow_other w g k _ (by omega)⟩

theorem results_ct_row {fn : Func} {p u : Tmp} (h : fn.results = #[.cell p 160, .tmp u]) (tmps : Array Value) (w : World) (g : Nat) (t : TypeId) (cs : Array Value) (fr : Nat × Nat)
    (hp : tmps.getD p undef = .pointer (some ⟨g, 0, none⟩)) (hg : w.heap[g]? = some (.cells cs t fr)) (hi : cs.size = 512) :
    (results fn tmps).run Tryz.prog w = .ok (.tuple #[.agg cs, tmps.getD u undef]) w := by
  rw [results_cell_tmp h, hp]
  simp only [asAddr, Sem.run_pure, Result.andThen_ok, run_loadVar_row w g t 160 cs fr _ hg under_arr rfl (by rw [info_arr, hi])]

/-- Exponents in bounds. -/
def Small (es : List Int) : Prop := es.length ≤ 512 ∧ ∀ (k : Nat) (x : Int), es[k]? = some x → 0 ≤ x ∧ x ≤ 64

set_option maxRecDepth 100000 in
set_option maxHeartbeats 800000 in
theorem packed_any (v : Value) (es : List Int) (w : World) (h : Is w v es) (hs : Small es) :
    Calls Tryz.prog 115 #[v] w fun e w' => e = .returned (.agg (arr (keyX es))) ∧ Below w.heap.size w w' := by
  obtain ⟨ao, cap, rfl, hao, hca, q0⟩ := Row.flat h
  unfold maxLen at hca
  have h512 := hs.1
  have HS : Hid (Small es) := hs
  have HI : Hid (Is w (.slice ao es.length cap) es) := h
  clear h q0 hs
  go_enter Tryz.func115, Tryz.ntmps115
  go_wp2
  rw [zero_cells]
  go_loopw [8] (fun i wr => ∃ k : Nat, k ≤ es.length ∧ i = .int .i64 k ∧ Ar wr w.heap.size zeros ∧ Ar wr (w.heap.size + 1) (keyTo es k) ∧ Below w.heap.size w wr) (fun i _ => es.length - (intOf i).toNat)
  case atStart =>
    refine ⟨0, by omega, rfl, ?_, ?_, ?_⟩
    · exact (Ar.new w zeros).later (below_alloc _)
    · have := Ar.new (w.alloc (.cells (arr zeros) 160)) zeros
      simpa [keyTo, zeros] using this
    · exact below_step (below_alloc _) (below_alloc _)
  case round =>
    obtain ⟨k, hk, rfl, hz, hy, hbl⟩ := hrel
    have HZ : Hid (Ar wr w.heap.size zeros) := hz
    have HY : Hid (Ar wr (w.heap.size + 1) (keyTo es k)) := hy
    clear hz hy
    by_cases hlt : k < es.length
    · obtain ⟨g, off, x, rfl, hx1, hx2, hx3, hx4⟩ := (HI.out.kp (Kp.of_below hbl)).at hlt
      have HX : Hid (es[k]? = some x) := hx1
      obtain ⟨hx5, hx6⟩ := HS.out.2 k x hx1
      have hcell := HY.out.cell (keyTo_get hlt (by omega))
      have hfr := HY.out.frozen k
      have hk512 : k < 512 := by omega
      clear hx1
      have hq := HY.out.put hbl (by omega) (k := k) (z := x.toNat) (V := x) (by omega) (keyTo_step HX.out hk512)
      have HP : Hid (Ar (wr.setCell ⟨w.heap.size + 1, k, none⟩ (.int .u8 x)) (w.heap.size + 1) (keyTo es (k + 1)) ∧ Below w.heap.size w (wr.setCell ⟨w.heap.size + 1, k, none⟩ (.int .u8 x))) := hq
      clear hq
      go_wp2
      go_roundw
      case rel => exact ⟨k + 1, by omega, by go_num, HZ.out.setOther (by omega), HP.out.1, HP.out.2⟩
      case measure => simp [intOf]; omega
    · have hke : k = es.length := by omega
      subst hke
      have hy := HY.out
      rw [keyTo_full] at hy
      have HY2 : Hid (Ar wr (w.heap.size + 1) (keyX es)) := hy
      have hl2 := keyX_len h512
      clear hy HY
      go_wp2_with (first
        | (refine wpList_load_row rfl _ _ rfl (w.heap.size + 1) rfl _ _ _ _ HY2.out under_arr rfl (by rw [info_arr, arr_size, hl2]) ?_)
        | (refine wpList_store_row rfl _ _ _ rfl w.heap.size (arr (keyX es)) rfl rfl _ _ HZ.out (by rw [info_arr, arr_size, hl2]) (by rw [arr_size, arr_size, len_zeros, hl2]) (arr_one _) ?_))
      refine bodyPost_ret (results_cell_row rfl _ _ w.heap.size _ (arr (keyX es)) (0, 0) _ rfl (setRow_heap wr _ _ _ _ _ HZ.out) under_arr rfl (by rw [info_arr, arr_size, hl2])) rfl ?_
      exact ⟨rfl, below_setRowY hbl (Nat.le_refl _)⟩

/-- The bytes of two rows, added. -/
def addK (a b : List Nat) : List Nat := List.zipWith (· + ·) a b

def addTo (ks : List Nat) (es : List Int) (k : Nat) : List Nat := addK (ks.take k) ((es.take k).map Int.toNat) ++ ks.drop k

theorem addTo_get {ks : List Nat} {es : List Int} {k x : Nat} (hk : ks[k]? = some x) (h : k < es.length) : (addTo ks es k)[k]? = some x := by
  have h1 := (List.getElem?_eq_some_iff.1 hk).1
  have hl : (addK (ks.take k) ((es.take k).map Int.toNat)).length = k := by simp [addK]; omega
  unfold addTo
  rw [List.getElem?_append_right (by omega), hl, Nat.sub_self, List.getElem?_drop, Nat.add_zero, hk]

theorem addTo_step {ks : List Nat} {es : List Int} {k x : Nat} {y : Int} (hk : ks[k]? = some x) (h : es[k]? = some y) : (addTo ks es k).set k (x + y.toNat) = addTo ks es (k + 1) := by
  have h1 := (List.getElem?_eq_some_iff.1 hk).1
  have h2 := (List.getElem?_eq_some_iff.1 h).1
  have hl : (addK (ks.take k) ((es.take k).map Int.toNat)).length = k := by simp [addK]; omega
  unfold addTo
  rw [drop_getY hk, set_mid _ _ _ _ _ hl, take_getY hk, take_getY h]
  unfold addK
  rw [List.map_append, List.zipWith_append (by simp; omega)]
  simp

theorem addK_zero (ks : List Nat) : ∀ n, n = ks.length → addK ks (List.replicate n 0) = ks := by
  intro n hn
  subst hn
  induction ks with
  | nil => rfl
  | cons a r ih => simp only [List.length_cons, List.replicate_succ, addK, List.zipWith_cons_cons, Nat.add_zero]; congr 1

theorem addTo_full {ks : List Nat} {es : List Int} (hk : ks.length = 512) (h : es.length ≤ 512) : addTo ks es es.length = addK ks (keyX es) := by
  unfold addTo keyX
  conv => rhs; rw [← List.take_append_drop es.length ks]
  unfold addK
  rw [List.zipWith_append (by simp; omega), List.take_of_length_le (Nat.le_refl es.length)]
  congr 1
  exact (addK_zero _ _ (by simp; omega)).symm

/-- What raised answers. -/
def raisedE (ks : List Nat) (es : List Int) : Int := if (addK ks (keyX es)).all (fun n => decide (n ≤ 64)) then 0 else 2

def raisedK (ks : List Nat) (es : List Int) : List Nat := if (addK ks (keyX es)).all (fun n => decide (n ≤ 64)) then addK ks (keyX es) else zeros

theorem addK_get {a b : List Nat} {k x y : Nat} (h : a[k]? = some x) (h' : b[k]? = some y) : (addK a b)[k]? = some (x + y) := by
  unfold addK; rw [List.getElem?_zipWith, h, h']

theorem keyX_get {es : List Int} {k : Nat} {y : Int} (h : es[k]? = some y) : (keyX es)[k]? = some y.toNat := by
  have h2 := (List.getElem?_eq_some_iff.1 h).1
  unfold keyX
  rw [List.getElem?_append_left (by simpa using h2), List.getElem?_map, h]; rfl

theorem keyX_high {es : List Int} {k : Nat} (h : es.length ≤ k) (hk : k < 512) : (keyX es)[k]? = some 0 := by
  unfold keyX
  rw [List.getElem?_append_right (by simpa using h), List.getElem?_replicate, if_pos (by simp; omega)]

set_option maxRecDepth 100000 in
set_option maxHeartbeats 800000 in
theorem raised_any (v : Value) (ks : List Nat) (es : List Int) (w : World) (h : Is w v es) (hs : Small es) (hk : ks.length = 512) (h64 : ∀ (j x : Nat), ks[j]? = some x → x ≤ 64) :
    Calls Tryz.prog 116 #[.agg (arr ks), v] w fun e w' => e = .returned (.tuple #[.agg (arr (raisedK ks es)), .int .i64 (raisedE ks es)]) ∧ Below w.heap.size w w' := by
  obtain ⟨ao, cap, rfl, hao, hca, q0⟩ := Row.flat h
  unfold maxLen at hca
  have h512 := hs.1
  have HS : Hid (Small es) := hs
  have HI : Hid (Is w (.slice ao es.length cap) es) := h
  have HK : Hid (ks.length = 512) := hk
  have H64 : Hid (∀ (j x : Nat), ks[j]? = some x → x ≤ 64) := h64
  clear h q0 hs h64 hk
  go_enter Tryz.func116, Tryz.ntmps116
  go_wp2
  rw [zero_cells]
  go_loopw [10] (fun i wr => ∃ k : Nat, k ≤ es.length ∧ i = .int .i64 k ∧ Ar wr w.heap.size (addTo ks es k) ∧ Ar wr (w.heap.size + 1) zeros ∧ (∀ (j x : Nat) (y : Int), j < k → ks[j]? = some x → es[j]? = some y → x + y.toNat ≤ 64) ∧ Below w.heap.size w wr) (fun i _ => es.length - (intOf i).toNat)
  case atStart =>
    refine ⟨0, by omega, rfl, ?_, ?_, fun j x y hj => absurd hj (by omega), ?_⟩
    · exact (Ar.new w ks).later (below_alloc _)
    · have := Ar.new (w.alloc (.cells (arr ks) 160)) zeros
      simpa using this
    · exact below_step (below_alloc _) (below_alloc _)
  case round =>
    obtain ⟨k, hk, rfl, hy, hz, hp, hbl⟩ := hrel
    have HZ : Hid (Ar wr (w.heap.size + 1) zeros) := hz
    have HY : Hid (Ar wr w.heap.size (addTo ks es k)) := hy
    have HP : Hid (∀ (j x : Nat) (y : Int), j < k → ks[j]? = some x → es[j]? = some y → x + y.toNat ≤ 64) := hp
    clear hz hy hp
    by_cases hlt : k < es.length
    · obtain ⟨g, off, y, rfl, hx1, hx2, hx3, hx4⟩ := (HI.out.kp (Kp.of_below hbl)).at hlt
      have HX : Hid (es[k]? = some y) := hx1
      obtain ⟨hx5, hx6⟩ := HS.out.2 k y hx1
      obtain ⟨x, hx⟩ : ∃ x, ks[k]? = some x := exists_get (by have := HK.out; omega)
      have hx64 := H64.out k x hx
      have HX2 : Hid (ks[k]? = some x) := hx
      have hcell := HY.out.cell (addTo_get hx hlt)
      have hfr := HY.out.frozen k
      have hk512 : k < 512 := by omega
      have hq := HY.out.put hbl (Nat.le_refl _) (k := k) (z := x + y.toNat) (V := (x : Int) + y) (by omega) (addTo_step HX2.out HX.out)
      have HQ : Hid (Ar (wr.setCell ⟨w.heap.size, k, none⟩ (.int .u8 ((x : Int) + y))) w.heap.size (addTo ks es (k + 1)) ∧ Below w.heap.size w (wr.setCell ⟨w.heap.size, k, none⟩ (.int .u8 ((x : Int) + y)))) := hq
      clear hx1 hx hq
      by_cases hgt : (64 : Int) < (x : Int) + y
      · have HZ2 : Hid (Ar (wr.setCell ⟨w.heap.size, k, none⟩ (.int .u8 ((x : Int) + y))) (w.heap.size + 1) zeros) := HZ.out.setOther (by omega)
        have hsz : Tryz.zeroCells160.size = 512 := Tryz.zeroCells160_size
        have HF : Hid (raisedK ks es = zeros ∧ raisedE ks es = 2) := by
          have : (addK ks (keyX es)).all (fun n => decide (n ≤ 64)) = false := by
            rw [List.all_eq_false]
            exact ⟨_, List.mem_of_getElem? (addK_get HX2.out (keyX_get HX.out)), by simp; omega⟩
          exact ⟨by simp [raisedK, this], by simp [raisedE, this]⟩
        go_wp2_with (first
          | (refine wpList_store_row rfl _ _ _ rfl (w.heap.size + 1) Tryz.zeroCells160 rfl rfl _ _ HZ2.out (by rw [info_arr, hsz]) (by rw [arr_size, len_zeros, hsz]) (by rw [zero_cells]; exact arr_one _) ?_))
        refine bodyPost_ret (results_ct_row rfl _ _ (w.heap.size + 1) _ Tryz.zeroCells160 (0, 0) rfl (setRow_heap _ _ _ _ _ _ HZ2.out) hsz) rfl ?_
        refine ⟨?_, below_setRowY HQ.out.2 (by omega)⟩
        rw [HF.out.1, HF.out.2, zero_cells]
        rfl
      · go_wp2
        go_roundw
        case rel =>
          refine ⟨k + 1, by omega, by go_num, HQ.out.1, HZ.out.setOther (by omega), fun j a b hj ha hb => ?_, HQ.out.2⟩
          by_cases hjk : j = k
          · subst hjk
            rw [HX2.out] at ha; rw [HX.out] at hb; cases ha; cases hb; omega
          · exact HP.out j a b (by omega) ha hb
        case measure => simp [intOf]; omega
    · have hke : k = es.length := by omega
      subst hke
      have hy := HY.out
      rw [addTo_full HK.out h512] at hy
      have HY2 : Hid (Ar wr w.heap.size (addK ks (keyX es))) := hy
      have hl2 : (addK ks (keyX es)).length = 512 := by
        have h1 := HK.out
        have h2 := keyX_len h512
        simp [addK, h1, h2]
      have HF : Hid (raisedK ks es = addK ks (keyX es) ∧ raisedE ks es = 0) := by
        have : (addK ks (keyX es)).all (fun n => decide (n ≤ 64)) = true := by
          rw [List.all_eq_true]
          intro z hz
          obtain ⟨j, hj⟩ := List.mem_iff_getElem?.1 hz
          have hj5 : j < 512 := by have := (List.getElem?_eq_some_iff.1 hj).1; omega
          obtain ⟨x, hx⟩ : ∃ x, ks[j]? = some x := exists_get (by have := HK.out; omega)
          by_cases hje : j < es.length
          · obtain ⟨y, hy⟩ : ∃ y, es[j]? = some y := ⟨es[j], List.getElem?_eq_getElem hje⟩
            rw [addK_get hx (keyX_get hy)] at hj
            cases hj
            simpa using HP.out j x y hje hx hy
          · rw [addK_get hx (keyX_high (by omega) hj5)] at hj
            cases hj
            simpa using H64.out j x hx
        exact ⟨by simp [raisedK, this], by simp [raisedE, this]⟩
      clear hy HY
      go_wp2_with (first
        | (refine wpList_load_row rfl _ _ rfl w.heap.size rfl _ _ _ _ HY2.out under_arr rfl (by rw [info_arr, arr_size, hl2]) ?_)
        | (refine wpList_store_row rfl _ _ _ rfl (w.heap.size + 1) (arr (addK ks (keyX es))) rfl rfl _ _ HZ.out (by rw [info_arr, arr_size, hl2]) (by rw [arr_size, arr_size, len_zeros, hl2]) (arr_one _) ?_))
      refine bodyPost_ret (results_ct_row rfl _ _ (w.heap.size + 1) _ (arr (addK ks (keyX es))) (0, 0) rfl (setRow_heap wr _ _ _ _ _ HZ.out) (by rw [arr_size, hl2])) rfl ?_
      refine ⟨?_, below_setRowY hbl (by omega)⟩
      rw [HF.out.1, HF.out.2]
      rfl

end Go.Proofs.YtdjmjhlbjcgoiaaGreatDoor
