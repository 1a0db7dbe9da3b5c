/- Texts of the proof, one behind the other. -/
import Derived.Test.YtoapgbaibpkckaaGreatDoorOwn2
import Derived.Test.YtoapgbaibpkckaaGreatDoorOwn1
import Derived.Sort.WalkB12
import Derived.Lib.SlicesMore
import Derived.Lib.Walk
import Derived.Deep.LoopGhost
import Derived.Deep.DeepAppendRoom
import Derived.RangeFuncNested
import Derived.RangeFuncBound
import Derived.RangeFuncCalls
import Derived.RangeFuncLeaves
import Derived.RangeFuncBox
import Derived.Shelf.Abstract
import Derived.Shelf.RegionOpen
import Derived.OwnWalkIn
import Derived.TacticsInMore
import Derived.LoopNIn
import Derived.LoopIn
import Derived.Lib.ValidLaws
import Derived.Stop.FmtQuoteTie
import Derived.Laws.Runes
/- Canon, plainly: it is blind to a renaming, and numbers what it numbered the same again. -/
namespace Go.Proofs.YtoapgbaibpkckaaGreatDoor
open Go.RowKit Go.Maps

/-- A code whose variable has another number. -/
def reC (f : Int → Int) (c : Int) : Int := if c < 0 then -1 - f (-1 - c) else c
def reK (f : Int → Int) (m : Met) : Met := m.map fun p => (f p.1, p.2)

/-- What one holds the other holds. -/
def Ext (m m' : Met) : Prop := ∀ n i, m.lookup n = some i → m'.lookup n = some i

theorem ext_num (m : Met) (n : Int) : Ext m (numN m n).2 := fun k i hk => by
  unfold numN
  cases hn : m.lookup n with
  | some j => exact hk
  | none =>
    have e : k ≠ n := fun e => by rw [e, hn] at hk; cases hk
    show List.lookup k ((n, (m.length : Int)) :: m) = _
    rw [List.lookup_cons, show (k == n) = false by simpa using e]
    exact hk

theorem val_num (m : Met) (n : Int) : (numN m n).2.lookup n = some (numN m n).1 := by
  unfold numN
  cases hn : m.lookup n with
  | some j => exact hn
  | none =>
    show List.lookup n ((n, (m.length : Int)) :: m) = _
    rw [List.lookup_cons, show (n == n) = true by simp]

theorem ext_ren : ∀ (t : List Int) (m : Met), Ext m (renG numN m t).2
  | [], _ => fun _ _ h => h
  | c :: t, m => fun n i h => by
    unfold renG
    split
    · exact ext_ren t _ n i (ext_num m (-1 - c) n i h)
    · exact ext_ren t m n i h

/-- The number that a variable has in the end. -/
def numF (F : Met) (n : Int) : Int := (F.lookup n).getD 0

theorem ren_map (F : Met) : ∀ (t : List Int) (m : Met), Ext (renG numN m t).2 F → (renG numN m t).1 = t.map (reC (numF F)) ∧ ∀ c ∈ t, c < 0 → (F.lookup (-1 - c)).isSome = true
  | [], _, _ => ⟨rfl, fun c hc => (by cases hc)⟩
  | c :: t, m, h => by
    by_cases hc : c < 0
    · have e : renG numN m (c :: t) = ((-1 - (numN m (-1 - c)).1) :: (renG numN (numN m (-1 - c)).2 t).1, (renG numN (numN m (-1 - c)).2 t).2) := by simp only [renG, if_pos hc]
      rw [e] at h
      obtain ⟨h1, h2⟩ := ren_map F t (numN m (-1 - c)).2 h
      have hv := h _ _ (ext_ren t _ _ _ (val_num m (-1 - c)))
      refine ⟨?_, fun x hx hx0 => ?_⟩
      · rw [e, List.map_cons, ← h1]
        simp only [reC, if_pos hc, numF, hv, Option.getD_some]
      · cases hx with
        | head => rw [hv]; rfl
        | tail _ hx => exact h2 x hx hx0
    · have e : renG numN m (c :: t) = (c :: (renG numN m t).1, (renG numN m t).2) := by simp only [renG, if_neg hc]
      rw [e] at h
      obtain ⟨h1, h2⟩ := ren_map F t m h
      refine ⟨?_, fun x hx hx0 => ?_⟩
      · rw [e, List.map_cons, ← h1]
        simp only [reC, if_neg hc]
      · cases hx with
        | head => exact absurd hx0 hc
        | tail _ hx => exact h2 x hx hx0

/-- Unlike variables have unlike numbers, none below 0, none from the count on. -/
def Apt (m : Met) : Prop := (∀ a b i, m.lookup a = some i → m.lookup b = some i → a = b) ∧ ∀ p ∈ m, 0 ≤ p.2 ∧ p.2 < (m.length : Int)

theorem apt_num {m : Met} (h : Apt m) (n : Int) : Apt (numN m n).2 := by
  refine ⟨?_, (numN_in h.2).2⟩
  unfold numN
  cases hn : m.lookup n with
  | some j => exact h.1
  | none =>
    intro a b i ha hb
    rw [List.lookup_cons] at ha hb
    by_cases ea : a = n
    · by_cases eb : b = n
      · rw [ea, eb]
      · subst ea
        rw [show (b == a) = false by simpa using eb] at hb
        simp at ha
        have := h.2 _ (lookup_mem hb)
        simp only at this
        omega
    · rw [show (a == n) = false by simpa using ea] at ha
      by_cases eb : b = n
      · subst eb
        simp at hb
        have := h.2 _ (lookup_mem ha)
        simp only at this
        omega
      · rw [show (b == n) = false by simpa using eb] at hb
        exact h.1 a b i ha hb

theorem apt_ren : ∀ (t : List Int) (m : Met), Apt m → Apt (renG numN m t).2
  | [], _, h => h
  | c :: t, m, h => by
    unfold renG
    split
    · exact apt_ren t _ (apt_num h _)
    · exact apt_ren t m h

end Go.Proofs.YtoapgbaibpkckaaGreatDoor

/- When two rules number their variables alike, plainly. -/
namespace Go.Proofs.YtoapgbaibpkckaaGreatDoor
open Go.RowKit Go.Maps

theorem met_once : ∀ (t m : List Int), m.Nodup → (metA m t).Nodup
  | [], m, h => h
  | c :: t, m, h => by
    unfold metA
    split
    · exact met_once t m h
    · rename_i hn
      refine met_once t (m ++ [c]) ?_
      rw [List.nodup_append]
      refine ⟨h, by simp, ?_⟩
      intro a ha b hb e
      simp at hb
      subst hb
      subst e
      exact hn (.inr ha)

end Go.Proofs.YtoapgbaibpkckaaGreatDoor

/- Literal rows in memory. -/
namespace Go.Proofs.YtoapgbaibpkckaaGreatDoor
open Go.RowKit Go.Maps Go.BigFrame

theorem is_new (w : World) (xs : List Int) (t : TypeId) (hz : ∀ x ∈ xs, -9223372036854775808 ≤ x ∧ x ≤ 9223372036854775807) (hl : xs.length ≤ 1000) : Is (w.alloc (.cells (xs.map I64).toArray t)) (.slice (some ⟨w.heap.size, 0, none⟩) xs.length xs.length) xs := by
  refine ⟨some ⟨w.heap.size, 0, none⟩, xs.length, rfl, Nat.le_refl _, by unfold maxLen; omega, fun _ => ⟨w.heap.size, 0, rfl, by simp, fun k x hk => ?_⟩⟩
  refine ⟨(hz x (List.mem_of_getElem? hk)).1, (hz x (List.mem_of_getElem? hk)).2, ?_⟩
  rw [Nat.mul_one, Nat.zero_add, cell_of_row _ _ _ _ _ _ (heap_alloc_new _ _)]
  simp [hk, I64]

/-- Binds one behind the other. -/
def EBs (w : World) (g : Nat) : Nat → List Bd → Prop
  | _, [] => True
  | o, b :: r => EB w g o b ∧ EBs w g (o + 2) r

theorem EBs.get {w : World} {g : Nat} : ∀ {p : List Bd} {o k : Nat} {m : Bd}, EBs w g o p → p[k]? = some m → EB w g (o + k * 2) m
  | [], _, _, _, _, h => by simp at h
  | x :: r, o, 0, m, h, hk => by
    simp at hk
    subst hk
    exact h.1
  | x :: r, o, k + 1, m, h, hk => by
    have := EBs.get h.2 (k := k) (by simpa using hk)
    rw [show o + (k + 1) * 2 = o + 2 + k * 2 by omega]
    exact this

def ESs (w : World) (g : Nat) : Nat → List Sy → Prop
  | _, [] => True
  | o, b :: r => ES w g o b ∧ ESs w g (o + 2) r

theorem ESs.get {w : World} {g : Nat} : ∀ {p : List Sy} {o k : Nat} {m : Sy}, ESs w g o p → p[k]? = some m → ES w g (o + k * 2) m
  | [], _, _, _, _, h => by simp at h
  | x :: r, o, 0, m, h, hk => by
    simp at hk
    subst hk
    exact h.1
  | x :: r, o, k + 1, m, h, hk => by
    have := ESs.get h.2 (k := k) (by simpa using hk)
    rw [show o + (k + 1) * 2 = o + 2 + k * 2 by omega]
    exact this

theorem sg_lit {w : World} {g : Nat} {p : List Sy} (hg : g < w.heap.size) (hl : p.length ≤ 9) (h : ESs w g 0 p) : Sg w (.slice (some ⟨g, 0, none⟩) p.length p.length) p := by
  refine ⟨_, p.length, rfl, Nat.le_refl _, by unfold maxLen; omega, fun _ => ⟨g, 0, rfl, hg, fun k m hk => ?_⟩⟩
  have := h.get hk
  rwa [Nat.zero_add] at this ⊢

theorem cell_new {w : World} {t : TypeId} {vs : Array Value} {k : Nat} {v : Value} (hv : vs[k]? = some v) : (w.alloc (.cells vs t)).cell? ⟨w.heap.size, k, none⟩ = some v := by
  rw [cell_of_row _ _ _ _ _ _ (heap_alloc_new _ _)]
  simpa using hv

theorem cell_old {w : World} {o : Obj} {g k : Nat} {v : Value} (h : w.cell? ⟨g, k, none⟩ = some v) : (w.alloc o).cell? ⟨g, k, none⟩ = some v := (Kp.of_below (below_alloc o)).cell _ _ h

def sumS : List Sy := [(⟨#[122, 101, 114, 111]⟩, 0), (⟨#[115]⟩, 1), (⟨#[112, 108, 117, 115]⟩, 2)]

end Go.Proofs.YtoapgbaibpkckaaGreatDoor

/- hasFree of package system walked. -/
namespace Go.Proofs.YtoapgbaibpkckaaGreatDoor
open Go.RowKit Go.Maps Go.BigFrame

set_option maxRecDepth 100000 in
set_option maxHeartbeats 800000 in
theorem freeClosure_any (x : Int) (c b : Nat) (L : List (Int × Value)) (w : World) (hc : w.cell? ⟨c, 0, none⟩ = some (.map (some b))) (hm : MapV w b L) (hu : ∀ n v, L.lookup n = some v → v = .agg #[]) (h1 : -9223372036854775808 ≤ x) (h2 : x ≤ 9223372036854775807) :
    Calls Tryz.prog 108 #[.int .i64 x, .pointer (some ⟨c, 0, none⟩)] w fun e w' => e = .returned (.bool (!(L.lookup x).isSome)) ∧ Below w.heap.size w w' := by
  have hlk := hm.look under_set (zero_unit w) h1 h2
  have hg : (L.lookup x).getD (.agg #[]) = .agg #[] := by
    cases hx : L.lookup x with
    | none => rfl
    | some v => exact hu x v hx
  rw [hg] at hlk
  have HLk := hid hlk
  clear hm hlk hg hu
  cases hl : (L.lookup x).isSome with
  | true =>
    rw [hl] at HLk
    go_enter Tryz.func108, Tryz.ntmps108
    go_wp2_with (first
      | (at_lookup; refine wpList_lookup_run rfl _ _ _ _ rfl _ _ _ rfl rfl HLk.out ?_))
    all_goals (go_ret; exact ⟨rfl, below_alloc _⟩)
  | false =>
    rw [hl] at HLk
    go_enter Tryz.func108, Tryz.ntmps108
    go_wp2_with (first
      | (at_lookup; refine wpList_lookup_run rfl _ _ _ _ rfl _ _ _ rfl rfl HLk.out ?_))
    all_goals (go_ret; exact ⟨rfl, below_alloc _⟩)

set_option maxRecDepth 100000 in
set_option maxHeartbeats 800000 in
theorem indexFree_any (vv : Value) (xs : List Int) (c b : Nat) (L : List (Int × Value)) (w : World) (hv : Is w vv xs) (hc : w.cell? ⟨c, 0, none⟩ = some (.map (some b))) (hm : MapV w b L) (hu : ∀ n v, L.lookup n = some v → v = .agg #[]) :
    Calls Tryz.prog 128 #[vv, .func (.func 108) #[] #[.pointer (some ⟨c, 0, none⟩)]] w fun e w' => ∃ n : Int, e = .returned (.int .i64 n) ∧ decide (0 ≤ n) = (xs.any fun x => !(L.lookup x).isSome) ∧ Below w.heap.size w w' := by
  obtain ⟨ao, cap, rfl, hao, hca, _⟩ := Row.flat hv
  unfold maxLen at hca
  have HV := hid hv
  have HC := hid hc
  have HM := hid hm
  have HU := hid hu
  clear hv hc hm hu
  go_enter Tryz.func128, Tryz.ntmps128
  go_wp2
  go_loopw [8] (fun i wr => ∃ k : Nat, k ≤ xs.length ∧ i = .int .i64 k ∧ (xs.take k).any (fun x => !(L.lookup x).isSome) = false ∧ Below w.heap.size w wr) (fun i _ => xs.length - (intOf i).toNat)
  case atStart => exact ⟨0, Nat.zero_le _, rfl, by simp, Below.refl _ _⟩
  case round =>
    obtain ⟨k, hk, rfl, hno, hbl⟩ := hrel
    have HNo := hid hno
    have HB := hid hbl
    clear hno
    by_cases hlt : k < xs.length
    · obtain ⟨g, off, x, rfl, hx1, hx2, hx3, hx4⟩ := (HV.out.kp (Kp.of_below hbl)).at hlt
      have HX := hid hx1
      clear hx1 hbl
      go_wp2_with fail
      refine (freeClosure_any x c b L wr ((Kp.of_below HB.out).cell _ _ HC.out) (HM.out.later HB.out) HU.out hx3 hx4).mono ?_
      rintro e w2 ⟨rfl, hb2⟩
      have HB2 := hid (below_step HB.out hb2)
      clear hb2 hx2
      cases hl : (L.lookup x).isSome with
      | false =>
        have HF : Hid ((xs.any fun x => !(L.lookup x).isSome) = true) := by
          show _ = _
          rw [List.any_eq_true]
          exact ⟨x, List.mem_of_getElem? HX.out, by rw [hl]; rfl⟩
        clear hl
        go_wp2
        go_ret
        exact ⟨_, rfl, by rw [HF.out]; simp, HB2.out⟩
      | true =>
        have HF : Hid ((xs.take (k + 1)).any (fun x => !(L.lookup x).isSome) = false) := by
          show _ = _
          rw [take_get HX.out, List.any_append, HNo.out]
          simp [hl]
        clear hl
        go_wp2
        go_roundw
        case rel => exact ⟨k + 1, by omega, by go_num, HF.out, HB2.out⟩
        case measure => simp only [intOf]; omega
    · have HF : Hid ((xs.any fun x => !(L.lookup x).isSome) = false) := by
        have h9 := HNo.out
        rw [List.take_of_length_le (by omega)] at h9
        exact h9
      go_wp2
      go_ret
      exact ⟨-1, rfl, by rw [HF.out]; rfl, HB.out⟩

set_option maxRecDepth 100000 in
theorem containsFree_any (vv : Value) (xs : List Int) (c b : Nat) (L : List (Int × Value)) (w : World) (hv : Is w vv xs) (hc : w.cell? ⟨c, 0, none⟩ = some (.map (some b))) (hm : MapV w b L) (hu : ∀ n v, L.lookup n = some v → v = .agg #[]) :
    Calls Tryz.prog 107 #[vv, .func (.func 108) #[] #[.pointer (some ⟨c, 0, none⟩)]] w fun e w' => e = .returned (.bool (xs.any fun x => !(L.lookup x).isSome)) ∧ Below w.heap.size w w' := by
  have HC := hid (indexFree_any vv xs c b L w hv hc hm hu)
  clear hv hc hm hu
  generalize (xs.any fun x => !(L.lookup x).isSome) = B at HC ⊢
  go_enter Tryz.func107, Tryz.ntmps107
  go_wp2_with fail
  refine HC.out.mono ?_
  rintro e w2 ⟨n, rfl, hn, hb2⟩
  have HN := hid hn
  clear hn
  go_wp2
  go_ret
  exact ⟨ret1b HN.out, hb2⟩

/-- Whether the right side has a variable that the left one has not. -/
def freeB (l r : List Int) : Bool := (varsL r).any fun x => !decide (x ∈ varsL l)

theorem varsL_len (t : List Int) : (varsL t).length ≤ t.length := by
  unfold varsL
  rw [List.length_map]
  have h : ∀ (t m : List Int), (metA m t).length ≤ m.length + t.length := fun t => by
    induction t with
    | nil => intro m; simp [metA]
    | cons c t ih =>
      intro m
      unfold metA
      split
      · have := ih m
        simp only [List.length_cons]
        omega
      · have := ih (m ++ [c])
        simp only [List.length_append, List.length_cons, List.length_nil] at this ⊢
        omega
  simpa using h t []

theorem vars_onceS (t : List Int) : (varsL t).Nodup := by
  unfold varsL
  refine List.Pairwise.map _ ?_ (met_once t [] (by simp))
  intro a b hab e
  omega

set_option maxRecDepth 100000 in
set_option maxHeartbeats 1600000 in
theorem hasFree_any (lv rv : Value) (l r : List Int) (w : World) (hl : Is w lv l) (hr : Is w rv r) (h1 : l.length * 8 ≤ 140737488351232) (h2 : r.length * 8 ≤ 140737488351232) :
    Calls Tryz.prog 81 #[.agg #[lv, rv]] w fun e w' => e = .returned (.bool (freeB l r)) ∧ Below w.heap.size w w' := by
  obtain ⟨a1, c1, e1, _⟩ := hl.flatI
  subst e1
  obtain ⟨a2, c2, e2, _⟩ := hr.flatI
  subst e2
  have HL := hid hl
  have HR := hid hr
  clear hl hr
  have hmm := @run_makeMap Tryz.prog
  obtain ⟨w0, hw0⟩ : ∃ X, X = ((w.alloc (.cells #[.slice a1 l.length c1, .slice a2 r.length c2] 38)).alloc (.map #[] 0)).alloc (.cells #[.map (some (w.heap.size + 1))] 127) := ⟨_, rfl⟩
  have hn1 : (w.alloc (.cells #[.slice a1 l.length c1, .slice a2 r.length c2] 38)).heap.size = w.heap.size + 1 := World.size_alloc _ _
  have hn2 : ((w.alloc (.cells #[.slice a1 l.length c1, .slice a2 r.length c2] 38)).alloc (.map #[] 0)).heap.size = w.heap.size + 1 + 1 := by rw [World.size_alloc, hn1]
  have C0 : Hid (Below w.heap.size w w0) := by rw [hw0]; exact below_step (below_step (below_alloc _) (below_alloc _)) (below_alloc _)
  have HM0 : Hid (MapV w0 (w.heap.size + 1) []) := by
    have h9 := (MapV.made (w.alloc (.cells #[.slice a1 l.length c1, .slice a2 r.length c2] 38))).later (below_alloc (.cells #[.map (some (w.heap.size + 1))] 127))
    rw [hn1, ← hw0] at h9
    exact h9
  have HCm : Hid (w0.cell? ⟨w.heap.size + 1 + 1, 0, none⟩ = some (.map (some (w.heap.size + 1)))) := by
    show _ = _
    rw [hw0, ← hn2]
    exact cell_new rfl
  have HC1 : Hid (w0.cell? ⟨w.heap.size, 1, none⟩ = some (.slice a2 r.length c2)) := by
    show _ = _
    rw [hw0]
    exact (Kp.of_below (below_step (below_alloc (.map #[] 0)) (below_alloc _))).cell _ _ (cell_new rfl)
  clear hn1 hn2
  go_enter Tryz.func81, Tryz.ntmps81
  go_wp2_with fail
  rw [← hw0]
  clear hw0
  refine (vars_any _ l w0 (HL.out.kp (Kp.of_below C0.out)) h1).mono ?_
  rintro e w1 ⟨v1, rfl, ho1, hb1⟩
  obtain ⟨vo, vc, hv1, hvc1, hvc2⟩ := ho1.shape
  subst hv1
  unfold maxLen at hvc2
  have C1 := hid (below_step C0.out hb1)
  have HM1 := hid (HM0.out.later hb1)
  have HCm1 := hid ((Kp.of_below hb1).cell _ _ HCm.out)
  have HC11 := hid ((Kp.of_below hb1).cell _ _ HC1.out)
  have HV1 := hid ho1.is
  have HOn := hid (vars_onceS l)
  have HMe : Hid (freeB l r = ((varsL r).any fun x => !decide (x ∈ varsL l))) := rfl
  have hvl : (varsL l).length ≤ 17592186043904 := by have := varsL_len l; omega
  clear ho1 hb1 HM0 HCm HC1 hmm
  generalize varsL l = V at HV1 HOn HMe hvl hvc1 ⊢
  go_wp2
  go_loopw [11] (fun iv wr => ∃ (k : Nat) (L : List (Int × Value)), k ≤ V.length ∧ L.length = k ∧ iv = .int .i64 k ∧ MapV wr (w.heap.size + 1) L ∧ (∀ n, (L.lookup n).isSome = decide (n ∈ V.take k)) ∧ (∀ n v, L.lookup n = some v → v = .agg #[]) ∧ Kp w1 wr ∧ Below w.heap.size w wr) (fun iv _ => V.length - (intOf iv).toNat)
  case atStart => exact ⟨0, [], Nat.zero_le _, rfl, rfl, HM1.out, fun n => (by simp), fun n v h => (by cases h), Kp.refl _, C1.out⟩
  case round =>
    obtain ⟨k, L, hk, hLk, rfl, hm, hlo, hu, hkp, hbl⟩ := hrel
    have HM := hid hm
    have HLo := hid hlo
    have HU := hid hu
    have HKp := hid hkp
    have HB := hid hbl
    have HLk := hid hLk
    have hcm := hkp.cell _ _ HCm1.out
    clear hm hlo hu hLk
    by_cases hlt : k < V.length
    · obtain ⟨g, off, x, rfl, hx1, hx2, hx3, hx4⟩ := (HV1.out.kp hkp).at hlt
      have hno : L.lookup x = none := by
        cases hq : L.lookup x with
        | none => rfl
        | some v =>
          have h9 := HLo.out x
          rw [hq] at h9
          have h8 : x ∈ V.take k := by simpa using h9.symm
          obtain ⟨j, hj⟩ := List.getElem?_of_mem h8
          have hjl := (List.getElem?_eq_some_iff.1 hj).1
          rw [List.length_take] at hjl
          rw [List.getElem?_take_of_lt (by omega)] at hj
          exfalso
          have h7 := (List.getElem_inj HOn.out (h₀ := (List.getElem?_eq_some_iff.1 hj).1) (h₁ := (List.getElem?_eq_some_iff.1 hx1).1)).1 (by rw [(List.getElem?_eq_some_iff.1 hj).2, (List.getElem?_eq_some_iff.1 hx1).2])
          omega
      obtain ⟨w4, hr4, hm4, hg4⟩ := HM.out.store under_set hx3 hx4 hno (by rw [HLk.out]; unfold maxLen; omega) (.agg #[])
      have HR4 := hid hr4
      have HM4 := hid hm4
      obtain ⟨es, clock, hes⟩ := HM.out.isMap
      have HK4 := hid (hkp.trans (Kp.of_map hg4 hes))
      have HB4 : Hid (Below w.heap.size w w4) := hbl.grown hg4 hbl.size (fun j hj => by cases hj; exact Nat.le_succ _)
      have HLo4 : Hid (∀ n, (List.lookup n ((x, Value.agg #[]) :: L)).isSome = decide (n ∈ V.take (k + 1))) := fun n => by
        rw [List.lookup_cons, take_get hx1]
        by_cases e : n = x
        · subst e
          simp
        · rw [show (n == x) = false by simpa using e]
          simp only [List.mem_append, List.mem_singleton, e, or_false]
          exact HLo.out n
      have HU4 : Hid (∀ n v, List.lookup n ((x, Value.agg #[]) :: L) = some v → v = .agg #[]) := fun n v hv => by
        rw [List.lookup_cons] at hv
        by_cases e : n = x
        · subst e
          simp at hv
          exact hv.symm
        · rw [show (n == x) = false by simpa using e] at hv
          exact HU.out n v hv
      clear hr4 hm4 hg4 hes hx1 hno hbl hkp
      go_wp2_with (first
        | (at_mapUpdate; refine wpList_mapUpdate_run rfl _ _ _ _ rfl _ _ _ rfl rfl rfl HR4.out ?_))
      go_roundw
      case rel => exact ⟨k + 1, _, hlt, by rw [List.length_cons, HLk.out], by go_num, HM4.out, HLo4.out, HU4.out, HK4.out, HB4.out⟩
      case measure => simp only [intOf]; omega
    · have hc1' := hkp.cell _ _ HC11.out
      have HLo2 : Hid (∀ n, (!(L.lookup n).isSome) = !decide (n ∈ V)) := fun n => by
        have h9 := HLo.out n
        rw [List.take_of_length_le (by omega)] at h9
        rw [h9]
      clear hbl hkp
      go_wp2_with fail
      refine (vars_any _ r wr (HR.out.kp (Kp.of_below HB.out)) h2).mono ?_
      rintro e w5 ⟨v5, rfl, ho5, hb5⟩
      have HV5 := hid ho5.is
      have HB5 := hid (below_step HB.out hb5)
      have HM5 := hid (HM.out.later hb5)
      have HC5 := hid ((Kp.of_below hb5).cell _ _ hcm)
      clear ho5 hb5 hcm hc1'
      go_wp2_with fail
      refine (containsFree_any _ (varsL r) _ _ L w5 HV5.out HC5.out HM5.out HU.out).mono ?_
      rintro e w6 ⟨rfl, hb6⟩
      have HB6 := hid (below_step HB5.out hb6)
      have HF : Hid (((varsL r).any fun x => !(L.lookup x).isSome) = freeB l r) := by
        show _ = _
        rw [HMe.out]
        congr 1
        funext x
        exact HLo2.out x
      rw [HF.out]
      clear hb6 HF
      go_wp2
      go_ret
      exact ⟨rfl, HB6.out⟩

end Go.Proofs.YtoapgbaibpkckaaGreatDoor

/- Rows of trees: cloned, turned round. -/
namespace Go.Proofs.YtoapgbaibpkckaaGreatDoor
open Go.RowKit Go.Maps

section
variable {P : Program} {w w' : World} {ops : Array Oper} {rest : List Oper} {o : Oper} {a : Act} {Q : Exit → Act → World → Prop}

theorem wpList_append_runT (hg : o.guard = none) (s x : Operand) (t : TypeId) (ho : o.op = .call { callee := .builtin .append, args := #[s, x], argTypes := #[t, t] }) (v u : Value) {v' : Value} (hs : a.eval s = v) (hx : a.eval x = u)
    (hr : (Builtin.append_ #[t, t] o.type #[v, u]).run P w = .ok v' w') (h : wpList P ops Q rest (a.put o.dst v') w') : wpList P ops Q (o :: rest) a w := by
  refine wpList_plain hg fun K' hK' => ?_
  unfold Oper.wp
  simp [execOp, ho, resolve, invoke, builtin, hs, hx, hr, Result.andThen]
  exact hK' _ _ h

end

/-- A slice that is read, by its values. -/
def RdV (w : World) (v : Value) (vals : List Value) : Prop :=
  (v = .slice none 0 0 ∧ vals = []) ∨ ∃ g off cap, v = .slice (some ⟨g, off, none⟩) vals.length cap ∧ ∀ (j : Nat) (u : Value), vals[j]? = some u → w.cell? ⟨g, off + j, none⟩ = some u

theorem drawn_below1 (w : World) : Below w.heap.size w w.drew := (Below.refl _ _).drew

theorem set_grownT (w : World) (g k : Nat) (u : Value) : w.grownBy (w.setCell ⟨g, k, none⟩ u) (some g) :=
  ⟨rfl, rfl, rfl, by simp [World.setCell], fun i _ hne => heap_setCell_other _ _ _ _ (by intro e; subst e; exact hne rfl)⟩

/-- A value of an interface. -/
def IfV (u : Value) : Prop := ∃ t x, u = .iface t x

theorem swp_mem {d : Array Value} {i j : Nat} (hi : i < d.size) (hj : j < d.size) {u : Value} (h : u ∈ (Sort.swp d i j).toList) : u ∈ d.toList := by
  unfold Sort.swp at h
  simp only [Array.toList_setIfInBounds] at h
  rcases List.mem_or_eq_of_mem_set h with h | h
  · rcases List.mem_or_eq_of_mem_set h with h | h
    · exact h
    · rw [h, getElem!_pos d j hj]; exact Array.getElem_mem_toList hj
  · rw [h, getElem!_pos d i hi]; exact Array.getElem_mem_toList hi

theorem swp_list {d : Array Value} {i j : Nat} (hi : i < d.size) (hj : j < d.size) : (Sort.swp d i j).toList = (d.toList.set i d[j]!).set j d[i]! := by
  unfold Sort.swp
  simp [getElem!_pos, hi, hj]

end Go.Proofs.YtoapgbaibpkckaaGreatDoor

/- Trees in memory; apply. -/
namespace Go.Proofs.YtoapgbaibpkckaaGreatDoor
open Go.RowKit Go.Maps

/-- A term as a tree, without its symbols. -/
inductive Tr where
  | var : Tr
  | app : List Tr → Tr

mutual
def Tr.size : Tr → Nat
  | .var => 1
  | .app ts => 1 + sizes ts
def sizes : List Tr → Nat
  | [] => 0
  | t :: ts => t.size + sizes ts
end

theorem IfV.one {u : Value} (h : IfV u) : u.oneCell' = true := by obtain ⟨t, x, rfl⟩ := h; rfl

theorem sizes_app : ∀ (a b : List Tr), sizes (a ++ b) = sizes a + sizes b
  | [], b => by simp [sizes]
  | t :: a, b => by simp only [List.cons_append, sizes, sizes_app a b]; omega

theorem Tr.pos (t : Tr) : 1 ≤ t.size := by
  cases t <;> simp only [Tr.size] <;> omega

theorem len_sizes : ∀ ts : List Tr, ts.length ≤ sizes ts
  | [] => by simp [sizes]
  | t :: ts => by
    have := t.pos
    have := len_sizes ts
    simp only [List.length_cons, sizes]
    omega

end Go.Proofs.YtoapgbaibpkckaaGreatDoor

/- A range over a function whose rounds are numbered: round k is handed just what the iterator hands it then. -/
namespace Go.Proofs.YtoapgbaibpkckaaGreatDoor
open Go.RowKit Go.Maps Go.Shelf

attribute [local go_sem] Oper.semAt_some

section
variable {P : Program} {F : Fence} {n : Nat}

/-- Rounds by their numbers. -/
theorem range_rounds {g : Operand} {ps : Array Tmp} {assign body : Code} {Q : Exit → Act → World → Prop} {a : Act} {w : World} (hro : F.round = none) (h1 : 1 ≤ n) {gf : Nat} {lb : Array Value}
    (hg : a.eval g = .func (.func gf) #[] lb) (hFg : F.fn gf) (eg : ∀ args w, (callFunc gf args).run P w = .ok (.enter gf args) w)
    (args : Nat → Array Value) (N : Nat) (hps : ∀ k, (args k).size = ps.size) (Rd : World → Prop) (I : Nat → World → Prop)
    (hput : ∀ (k : Nat) (W : World) (l : Nat) (o o' : Obj), w.heap.size ≤ l → W.heap[l]? = some o → o.isCells = false → I k W → I k (W.putObj l o'))
    (h0 : ∀ r : Loop, I 0 ((w.alloc (.deferred (some []))).alloc (.loop r))) (hRd : ∀ k W, I k W → Rd W)
    (hseq : ∀ (l : Nat) (J : Nat → World → Prop) (W : World), (∀ k W1, J k W1 → Rd W1) → (∀ k W1, k < N → J k W1 → YieldAt F (n - 1 - 1) P l (args k) W1 fun e W' => e = .returned (.bool true) ∧ J (k + 1) W') → J 0 W →
      CallsIn F (n - 1) P gf (#[.func (.yield l) #[] #[]] ++ lb) W fun e W' => (∃ v, e = .returned v) ∧ J N W')
    (a1 : Nat → Act)
    (hassign : ∀ (l k : Nat) (W : World) (K : Act → World → Prop), K (a1 k) W → assign.wpIn (F.inRound l) (n - 1 - 1) P (Exit.then K (fun _ _ _ => False)) { tmps := (ps.zip (args k)).foldl (fun t (p, v) => t.setIfInBounds p v) a.tmps, defers := [] } W)
    (hbody : ∀ (l k : Nat) (W : World), k < N → I k W → body.wpIn (F.inRound l) (n - 1 - 1) P (fun e _ W' => e = .normal ∧ KeepsFrom w.heap.size W W' ∧ I (k + 1) W') (a1 k) W)
    (hdone : ∀ (D : Nat) (W : World), w.heap.size ≤ D → I N W → W.heap[D]? = some (.deferred (some [])) → Q .normal { a with defers := { target := .collected D, args := #[] } :: a.defers } W) :
    (Code.rangeFunc g ps assign body).wpIn F n P Q a w := by
  refine wpIn_rangeFunc fun fn hfn => ?_
  rw [hro]
  -- the record of the loop, as it stands between two rounds and in one
  obtain ⟨R, hR⟩ : ∃ R : LoopState → Loop, R = fun s => { state := s, pending := none, fn, tmps := a.tmps, params := ps, assign, body, defers := w.heap.size } := ⟨_, rfl⟩
  have hRs : ∀ s, (R s).state = s := fun s => by rw [hR]
  have hRb : ∀ s s', { R s with state := s' } = R s' := fun s s' => by rw [hR]
  obtain ⟨l, hl⟩ : ∃ l, l = w.heap.size + 1 := ⟨_, rfl⟩
  obtain ⟨W1, hW1⟩ : ∃ W, W = (w.alloc (.deferred (some []))).alloc (.loop (R .ready)) := ⟨_, rfl⟩
  have hl1 : W1.heap[l]? = some (.loop (R .ready)) := by
    rw [hW1, hl]
    have := World.alloc_heap_new (w.alloc (.deferred (some []))) (.loop (R .ready))
    rwa [World.size_alloc] at this
  have hd1 : W1.heap[w.heap.size]? = some (.deferred (some [])) := by
    rw [hW1]
    exact (Below.heap_alloc _ _ _ (by simp)).trans (World.alloc_heap_new w _)
  refine ⟨l, [{ target := .collected w.heap.size, args := #[] }], W1, { target := .fn (.func gf) lb, args := #[.func (.yield l) #[] #[]] }, W1, gf, #[.func (.yield l) #[] #[]] ++ lb, W1, ?_, ?_, ?_, ?_, fun _ => h1, ?_⟩
  · rw [hl, hW1, hR]
    exact run_enterLoop_outer _ _ _ _ _
  · simp only [resolve, hg]
    simp [go_sem]
  · intro f' hf'
    simp [Target.leads] at hf'
    subst hf'
    exact hFg
  · simp [invoke, go_sem, eg]
  · refine (hseq l (fun k W => I k W ∧ W.heap[l]? = some (.loop (R .ready)) ∧ W.heap[w.heap.size]? = some (.deferred (some []))) W1 (fun k W h => hRd k W h.1) ?_ ⟨by rw [hW1]; exact h0 _, hl1, hd1⟩).mono ?_
    · rintro k W hk ⟨hi, hL, hD⟩
      have hlt := (Array.getElem?_eq_some_iff.1 hL).1
      have hy := run_yield (P := P) (args := args k) hL (by rw [hR]; exact hps k)
      refine ⟨_, _, _, _, hy, ?_⟩
      rw [show (R .ready).assign = assign by rw [hR], show (R .ready).body = body by rw [hR], show (R .ready).fn = fn by rw [hR], show (R .ready).tmps = a.tmps by rw [hR], show (R .ready).params = ps by rw [hR]]
      refine roundIn_of_wpIn hfn (hassign l k W _ ⟨_, run_beginRound hL (hRs _), ?_⟩)
      rw [hRb]
      have hL2 : (W.putObj l (.loop (R .busy))).heap[l]? = some (.loop (R .busy)) := World.putObj_heap_same hlt
      have hD2 : (W.putObj l (.loop (R .busy))).heap[w.heap.size]? = some (.deferred (some [])) := (World.putObj_heap_other (by omega)).trans hD
      refine wpIn_mono (hbody l k _ hk (hput k W l _ _ (by omega) hL rfl hi)) ?_
      rintro e a3 W3 ⟨rfl, hkf, hi3⟩
      have hL3 := hkf.same _ _ (show w.heap.size ≤ l by omega) hL2 rfl
      have hD3 := hkf.same _ _ (Nat.le_refl _) hD2 rfl
      have he := run_endRound (P := P) none hL3
      refine ⟨_, _, he, rfl, ?_, ?_, ?_⟩
      · exact hput _ W3 l _ _ (by omega) hL3 rfl hi3
      · rw [World.putObj_heap_same (Array.getElem?_eq_some_iff.1 hL3).1]
        simp only [Option.isNone_none, if_true]
        rw [hR]
      · exact (World.putObj_heap_other (by omega)).trans hD3
    · rintro e W2 ⟨⟨v, rfl⟩, hi, hL, hD⟩
      have he := run_endLoop (P := P) hL (by rw [hRs]; simp)
      rw [show (R .ready).pending = none by rw [hR]] at he
      exact ⟨none, _, he, hdone _ _ (Nat.le_refl _) (hput _ W2 l _ _ (by omega) hL rfl hi) ((World.putObj_heap_other (by omega)).trans hD)⟩

end

end Go.Proofs.YtoapgbaibpkckaaGreatDoor

/- slices.Backward over a row of numbers. -/
namespace Go.Proofs.YtoapgbaibpkckaaGreatDoor
open Go.RowKit Go.Maps Go.Shelf

attribute [local go_sem] Oper.semAt_some

/-- What round k is handed. -/
def backA (t : List Int) (k : Nat) : Array Value := #[.int .i64 ((t.length - 1 - k : Nat) : Int), .int .i64 (t.reverse[k]?.getD 0)]

/-- What the iterator reads. -/
def BackR (Bs b off cap : Nat) (t : List Int) (W : World) : Prop := W.cell? ⟨Bs, 0, none⟩ = some (.slice (some ⟨b, off, none⟩) t.length cap) ∧ ∀ (j : Nat) (c : Int), t[j]? = some c → W.cell? ⟨b, off + j, none⟩ = some (.int .i64 c)

set_option maxRecDepth 100000 in
set_option maxHeartbeats 1600000 in
theorem back_rounds (F : Fence) (n : Nat) (hF : F.fn 157) (hro : F.round = none) (hn : 1 ≤ n) (Bs b off cap : Nat) (t : List Int) (ht : t.length * 8 ≤ 140737488351232) (_hcap : t.length ≤ cap) (_hcm : cap ≤ 9223372036854775807) (l : Nat) (J : Nat → World → Prop) (W : World)
    (hR : ∀ k W1, J k W1 → BackR Bs b off cap t W1) (hY : ∀ k W1, k < t.length → J k W1 → YieldAt F (n - 1) Tryz.prog l (backA t k) W1 fun e W' => e = .returned (.bool true) ∧ J (k + 1) W') (h0 : J 0 W) :
    CallsIn F n Tryz.prog 157 (#[.func (.yield l) #[] #[]] ++ #[.pointer (some ⟨Bs, 0, none⟩)]) W fun e W' => (∃ v, e = .returned v) ∧ J t.length W' := by
  refine callsIn_of_wp Tryz.func157 rfl hF ?_ hro
  simp only [Tryz.ntmps157, List.size_toArray, List.length_cons, List.length_nil, Nat.reduceAdd, Nat.reduceSub, Array.replicate_succ, Array.replicate_zero, List.push_toArray, List.append_toArray, List.nil_append, List.cons_append]
  have hb0 := (hR 0 W h0).1
  have hw0 : IntKind.i64.wrap ((t.length : Int) - 1) = (t.length : Int) - 1 := IntWalk.i64_in _ ⟨by omega, by omega⟩
  gi_wp2
  gi_loopw [3] (fun iv wr => ∃ k : Nat, k ≤ t.length ∧ iv = .int .i64 ((t.length : Int) - 1 - k) ∧ J k wr) (fun iv _ => (intOf iv + 1).toNat)
  case atStart => exact ⟨0, Nat.zero_le _, by simp, h0⟩
  case round =>
    obtain ⟨k, hk, rfl, hJ⟩ := hrel
    obtain ⟨hb1, hb2⟩ := hR k wr hJ
    by_cases hlt : k < t.length
    · obtain ⟨j, hj⟩ : ∃ j : Nat, j = t.length - 1 - k := ⟨_, rfl⟩
      have hjl : j < t.length := by omega
      have hji : (t.length : Int) - 1 - (k : Int) = (j : Int) := by omega
      obtain ⟨c, hc⟩ : ∃ c, t[j]? = some c := ⟨_, List.getElem?_eq_getElem hjl⟩
      have hcell := hb2 j c hc
      obtain ⟨fn, tmps, assign, body, hy, hRd⟩ := hY k wr hlt hJ
      have hbk : backA t k = #[.int .i64 (j : Int), .int .i64 c] := by
        unfold backA
        rw [List.getElem?_reverse hlt, ← hj, hc]
        rfl
      rw [hbk] at hy
      rw [hji]
      clear hb2 hbk hc hj
      gi_wp2
      refine hRd.mono ?_
      rintro e W3 ⟨rfl, hJ3⟩
      have hwj : IntKind.i64.wrap ((j : Int) - 1) = (j : Int) - 1 := IntWalk.i64_in _ ⟨by omega, by omega⟩
      gi_wp2
      go_roundw
      case rel => exact ⟨k + 1, by omega, congrArg (Value.int .i64) (by omega), hJ3⟩
      case measure => simp [intOf]
    · have hke : k = t.length := by omega
      subst hke
      gi_wp2
      go_end0
      exact ⟨⟨_, rfl⟩, hJ⟩

theorem back_any (ao : Option Addr) (len cap : Nat) (w : World) (F : Fence) (n : Nat) (hF : F.fn 139) (hro : F.round = none) :
    CallsIn F n Tryz.prog 139 #[.slice ao len cap] w fun e w' => e = .returned (.func (.func 157) #[] #[.pointer (some ⟨w.heap.size, 0, none⟩)]) ∧ w' = w.alloc (.cells #[.slice ao len cap] 36) := by
  refine callsIn_of_wp Tryz.func139 rfl hF ?_ hro
  simp only [Tryz.ntmps139, List.size_toArray, List.length_cons, List.length_nil, Nat.reduceAdd, Nat.reduceSub, Array.replicate_succ, Array.replicate_zero, List.push_toArray, List.append_toArray, List.nil_append, List.cons_append]
  gi_wp2
  go_ret
  exact ⟨rfl, rfl⟩

end Go.Proofs.YtoapgbaibpkckaaGreatDoor

/- Binds laid, plainly; one after the other. -/
namespace Go.Proofs.YtoapgbaibpkckaaGreatDoor
open Go.RowKit Go.Maps

/-- What comes of a row, of whatever length. -/
def laidL (f : Int → Option (List Int)) (t : List Int) : List Int := t.flatMap (piece f)

end Go.Proofs.YtoapgbaibpkckaaGreatDoor

/- The document's names, plainly; its letters, names and marked names walked. -/
namespace Go.Proofs.YtoapgbaibpkckaaGreatDoor
open Go.RowKit Go.Maps Go.Lib

/-- What the runes of a text come to, one behind the other. -/
def encGo : Nat → List UInt8 → List UInt8
  | 0, _ => []
  | n + 1, l => if l = [] then [] else (Utf8.encode ((decodeL l).1 : Int)).data.toList ++ encGo n (l.drop (decodeL l).2)

theorem enc_bytes (r : Nat) : (Utf8.encode (r : Int)).data.toList = encodeRune (r : Int) := by
  have h := Go.Extern.FmtText.encode_eq r
  unfold encodeRune
  rw [← h]
  have e : (fun x : Int => x.toNat.toUInt8) ∘ (fun x : UInt8 => (x.toNat : Int)) = id := by funext x; simp
  unfold Go.Extern.FmtText.nums
  rw [List.map_map, e, List.map_id]

theorem encGo_valid : ∀ (n : Nat) (l : List UInt8), l.length ≤ n → (encGo n l = l ↔ validD l = true)
  | 0, l, h => by
    obtain rfl : l = [] := List.eq_nil_of_length_eq_zero (by omega)
    exact ⟨fun _ => rfl, fun _ => rfl⟩
  | n + 1, l, h => by
    by_cases h0 : l = []
    · subst h0
      exact ⟨fun _ => rfl, fun _ => by simp [encGo]⟩
    · have hw := decodeL_width l
      have hl : 0 < l.length := List.length_pos_iff.2 h0
      rw [validD_step l h0, encGo, if_neg h0]
      by_cases hb : (decodeL l).1 = 65533 ∧ (decodeL l).2 = 1
      · rw [if_pos hb]
        refine ⟨fun e => ?_, fun e => by cases e⟩
        exfalso
        rw [hb.1, show (Utf8.encode ((65533 : Nat) : Int)).data.toList = [239, 191, 189] by rfl] at e
        have e2 := hb.2
        rw [← e, decodeL_N] at e2
        simp [decodeN] at e2
      · rw [if_neg hb, enc_bytes, encode_decode l h0 hb]
        rw [← encGo_valid n (l.drop (decodeL l).2) (by rw [List.length_drop]; omega)]
        refine ⟨fun e => ?_, fun e => ?_⟩
        · refine (List.append_right_inj (l.take (decodeL l).2)).1 ?_
          rw [e, List.take_append_drop]
        · rw [e, List.take_append_drop]

/-- The bytes behind the first of a rune. -/
theorem rune_bytes (s : ByteArray) (pos j : Nat) (h1 : 1 ≤ j) (h2 : j < (Utf8.decode s pos).2) : 128 ≤ (s.data.toList.getD (pos + j) 0).toNat := by
  rw [decode_N] at h2
  rcases decodeN_shape (s.data.toList.length - pos) (s.data.toList.getD pos 0).toNat (s.data.toList.getD (pos + 1) 0).toNat (s.data.toList.getD (pos + 2) 0).toNat (s.data.toList.getD (pos + 3) 0).toNat with ⟨c, e⟩ | ⟨c1, c2, c3, cv, e⟩ | ⟨c1, c2, c3, c4, cv, cs, e⟩ | ⟨c1, c2, c3, c4, c5, cv, cw, e⟩ | e
  · rw [e] at h2; simp only at h2; omega
  · rw [e] at h2; simp only at h2
    obtain rfl : j = 1 := by omega
    omega
  · rw [e] at h2; simp only at h2
    have hj : j = 1 ∨ j = 2 := by omega
    rcases hj with rfl | rfl <;> omega
  · rw [e] at h2; simp only at h2
    have hj : j = 1 ∨ j = 2 ∨ j = 3 := by omega
    rcases hj with rfl | rfl | rfl <;> omega
  · rw [e] at h2; simp only at h2; omega

/-- A text that ends in a mark is no name. -/
theorem nm_hash (s : ByteArray) (hl : s.data.toList.getD (s.size - 1) 0 = 35) : ∀ (b pos : Nat), pos < s.size → s.size ≤ pos + b → nmGo s b pos = false
  | 0, pos, h1, h2 => by omega
  | b + 1, pos, h1, h2 => by
    rw [nmGo, if_pos h1]
    have hw := Lib.width_pos s pos
    by_cases h3 : pos + (Utf8.decode s pos).2 < s.size
    · rw [nm_hash s hl b _ h3 (by omega), Bool.and_false]
    · have hp : pos = s.size - 1 := by
        by_cases h4 : pos = s.size - 1
        · exact h4
        · exfalso
          have := rune_bytes s pos (s.size - 1 - pos) (by omega) (by omega)
          rw [show pos + (s.size - 1 - pos) = s.size - 1 by omega, hl] at this
          simp at this
      have hd : (Utf8.decode s pos).1 = 35 := by
        rw [decode_N, hp, hl]
        simp [decodeN]
      rw [hd]
      simp [letB, folB]

/-- A text with one sign less. -/
def init1 (s : ByteArray) : ByteArray := s.extract 0 (s.size - 1)
def lastB (s : ByteArray) : UInt8 := s.data.toList.getD (s.size - 1) 0
def markB (s : ByteArray) : Bool := decide (0 < s.size) && (decide (lastB s = 35) && nameB (validD (init1 s).data.toList) (init1 s))

theorem bare_hash (s : ByteArray) (h0 : 0 < s.size) (h : lastB s = 35) : bare s = init1 s := by
  have hl : s.data.toList.length = s.size := (size_eq s).symm
  have hx : s.data.toList.drop (s.size - 1) = [35] := by
    unfold lastB at h
    rw [List.drop_eq_getElem_cons (by omega), List.drop_of_length_le (by omega)]
    rw [List.getD_eq_getElem?_getD, List.getElem?_eq_getElem (by omega), Option.getD_some] at h
    rw [h]
  have hs : hasSuffix s.data.toList "#".toUTF8.data.toList = true := by
    show hasSuffix s.data.toList [35] = true
    unfold hasSuffix
    rw [List.isSuffixOf_iff_suffix]
    exact ⟨s.data.toList.take (s.size - 1), by rw [← hx, List.take_append_drop]⟩
  unfold bare init1 trimSuffix
  rw [if_pos hs]
  apply ByteArray.ext
  apply Array.ext'
  show s.data.toList.take (s.data.toList.length - 1) = (s.extract 0 (s.size - 1)).data.toList
  rw [ByteArray.data_extract, Array.toList_extract, hl]
  simp

theorem bare_plain (s : ByteArray) (h : ¬ (0 < s.size ∧ lastB s = 35)) : bare s = s := by
  have hl : s.data.toList.length = s.size := (size_eq s).symm
  have hs : ¬ hasSuffix s.data.toList "#".toUTF8.data.toList = true := by
    show ¬ hasSuffix s.data.toList [35] = true
    unfold hasSuffix
    rw [List.isSuffixOf_iff_suffix]
    rintro ⟨l, e⟩
    have hn := congrArg List.length e
    simp only [List.length_append, List.length_cons, List.length_nil] at hn
    refine h ⟨by omega, ?_⟩
    unfold lastB
    rw [← e, show s.size - 1 = l.length by omega]
    simp
  unfold bare trimSuffix
  rw [if_neg hs]

/-- A symbol's name is a name, or a marked one. -/
theorem sym_ref (s : ByteArray) : symB s = (nameB (validD s.data.toList) s || markB s) := by
  unfold symB markB
  by_cases h : 0 < s.size ∧ lastB s = 35
  · have hn : nameB (validD s.data.toList) s = false := by
      unfold nameB
      rw [nm_hash s h.2 s.size 0 h.1 (by omega)]
      simp
    rw [hn, bare_hash s h.1 h.2, decide_eq_true h.1, decide_eq_true h.2]
    simp
  · rw [bare_plain s h]
    by_cases h0 : 0 < s.size
    · rw [decide_eq_false (fun h1 => h ⟨h0, h1⟩)]
      simp
    · rw [decide_eq_false h0]
      simp
set_option maxRecDepth 100000 in
theorem refLetter_any (r : Int) (w : World) : Calls Tryz.prog 110 #[.int .i32 r] w fun e w' => e = .returned (.bool (letB r)) ∧ w' = w := by
  obtain ⟨B, hB⟩ : ∃ B, B = letB r := ⟨_, rfl⟩
  rw [← hB]
  have HB : Hid (B = letB r) := hB
  clear hB
  go_enter Tryz.func110, Tryz.ntmps110
  by_cases h1 : 97 ≤ r
  · by_cases h2 : r ≤ 122
    · have HF : Hid (B = true) := by show _ = _; rw [HB.out]; unfold letB; simp [h1, h2]
      clear HB
      go_wp2
      go_ret
      exact ⟨ret1b HF.out.symm, rfl⟩
    · have HF : Hid (B = decide (128 ≤ r)) := by show _ = _; rw [HB.out]; unfold letB; rw [decide_eq_false h2, decide_eq_false (show ¬ r ≤ 90 by omega)]; simp
      clear HB
      have h3 : 65 ≤ r := by omega
      have h4 : ¬ r ≤ 90 := by omega
      go_wp2
      go_ret
      exact ⟨ret1b HF.out.symm, rfl⟩
  · by_cases h3 : 65 ≤ r
    · by_cases h4 : r ≤ 90
      · have HF : Hid (B = true) := by show _ = _; rw [HB.out]; unfold letB; simp [h3, h4]
        clear HB
        go_wp2
        go_ret
        exact ⟨ret1b HF.out.symm, rfl⟩
      · have HF : Hid (B = decide (128 ≤ r)) := by show _ = _; rw [HB.out]; unfold letB; rw [decide_eq_false h1, decide_eq_false h4]; simp
        clear HB
        go_wp2
        go_ret
        exact ⟨ret1b HF.out.symm, rfl⟩
    · have HF : Hid (B = decide (128 ≤ r)) := by show _ = _; rw [HB.out]; unfold letB; rw [decide_eq_false h1, decide_eq_false h3]; simp
      clear HB
      go_wp2
      go_ret
      exact ⟨ret1b HF.out.symm, rfl⟩

def morB (r : Int) : Bool := letB r || folB r

set_option maxRecDepth 100000 in
theorem refMore_any (r : Int) (w : World) : Calls Tryz.prog 111 #[.int .i32 r] w fun e w' => e = .returned (.bool (morB r)) ∧ w' = w := by
  obtain ⟨B, hB⟩ : ∃ B, B = morB r := ⟨_, rfl⟩
  rw [← hB]
  have HB : Hid (B = morB r) := hB
  clear hB
  go_enter Tryz.func111, Tryz.ntmps111
  go_wp2_with fail
  refine (refLetter_any r w).mono ?_
  rintro e w9 ⟨rfl, hw9⟩
  have hw8 := hw9.symm
  subst hw8
  clear hw9
  cases hL : letB r
  · have HF : Hid (B = folB r) := by show _ = _; rw [HB.out]; unfold morB; rw [hL]; rfl
    clear HB hL
    by_cases h1 : 48 ≤ r
    · by_cases h2 : r ≤ 57
      · have HG : Hid (B = true) := by show _ = _; rw [HF.out]; unfold folB; simp [h1, h2]
        clear HF
        go_wp2
        go_ret
        exact ⟨ret1b HG.out.symm, rfl⟩
      · by_cases h3 : r = 95
        · have HG : Hid (B = true) := by show _ = _; rw [HF.out]; unfold folB; simp [h3]
          have h3b : (r == 95) = true := by rw [beq_iff_eq]; exact h3
          clear HF
          go_wp2
          go_ret
          exact ⟨ret1b HG.out.symm, rfl⟩
        · have HG : Hid (B = decide (r = 39)) := by show _ = _; rw [HF.out]; unfold folB; rw [decide_eq_false h2, decide_eq_false h3]; simp
          have h3b : (r == 95) = false := by rw [beq_eq_false_iff_ne]; exact h3
          clear HF
          go_wp2
          go_ret
          exact ⟨ret1b (by rw [HG.out, decide_eq_false (show ¬ r ≤ 57 by omega)]; rfl), rfl⟩
    · by_cases h3 : r = 95
      · omega
      · have HG : Hid (B = decide (r = 39)) := by show _ = _; rw [HF.out]; unfold folB; rw [decide_eq_false h1, decide_eq_false h3]; simp
        have h3b : (r == 95) = false := by rw [beq_eq_false_iff_ne]; exact h3
        clear HF
        go_wp2
        go_ret
        exact ⟨ret1b (by rw [HG.out]; rfl), rfl⟩
  · have HF : Hid (B = true) := by show _ = _; rw [HB.out]; unfold morB; rw [hL]; rfl
    clear HB hL
    go_wp2
    go_ret
    exact ⟨ret1b HF.out.symm, rfl⟩

end Go.Proofs.YtoapgbaibpkckaaGreatDoor

/- The document's names walked. -/
namespace Go.Proofs.YtoapgbaibpkckaaGreatDoor
open Go.RowKit Go.Maps Go.Lib

theorem encGo_nil (n : Nat) : encGo n [] = [] := by cases n <;> simp [encGo]

theorem encGo_more (s : ByteArray) (b pos : Nat) (h : pos < s.size) : encGo (b + 1) (s.data.toList.drop pos) = (Utf8.encode ((Utf8.decode s pos).1 : Int)).data.toList ++ encGo b (s.data.toList.drop (pos + (Utf8.decode s pos).2)) := by
  have hne : s.data.toList.drop pos ≠ [] := by
    intro h0
    have := congrArg List.length h0
    rw [List.length_drop, ← Go.Lib.size_eq] at this
    simp at this
    omega
  rw [encGo, if_neg hne, decodeL_drop, List.drop_drop]

set_option maxRecDepth 1000000 in
set_option maxHeartbeats 1600000 in
theorem refGood_any (s : ByteArray) (w : World) (hs : s.size ≤ 32) :
    Calls Tryz.prog 109 #[.string s] w fun e w' => e = .returned (.bool (validD s.data.toList)) ∧ Below w.heap.size w w' := by
  go_enter Tryz.func109, Tryz.ntmps109
  go_wp2
  go_loopw [3] (fun x w' => ∃ (pos b : Nat) (acc : ByteArray), x = .string acc ∧ w' = w.iter s pos ∧ encGo s.size s.data.toList = acc.data.toList ++ encGo b (s.data.toList.drop pos) ∧ s.size ≤ pos + b ∧ acc.size ≤ 4 * pos) (fun _ w' => s.size - w'.iterPos w.heap.size)
  case atStart => exact ⟨0, s.size, ByteArray.empty, rfl, rfl, by simp, by omega, by simp⟩
  case round =>
    obtain ⟨pos, b, acc, rfl, rfl, hc, hb, hz⟩ := hrel
    have HC := hid hc
    clear hc
    by_cases hp : pos < s.size
    · have hnx : ∀ ty, (Instr.next (.pointer (some ⟨w.heap.size, 0, none⟩)) true ty).run Tryz.prog (w.iter s pos) = _ := fun ty => run_next_any w s pos ty hp
      have hwd := Lib.width_pos s pos
      obtain ⟨b', rfl⟩ : ∃ b', b = b' + 1 := ⟨b - 1, by omega⟩
      have hstep := encGo_more s b' pos hp
      obtain ⟨r, hr⟩ : ∃ r : Nat, r = (Utf8.decode s pos).1 := ⟨_, rfl⟩
      obtain ⟨wd, hwd2⟩ : ∃ wd : Nat, wd = (Utf8.decode s pos).2 := ⟨_, rfl⟩
      rw [← hr, ← hwd2] at hstep hnx
      rw [← hwd2] at hwd
      obtain ⟨E, hE⟩ : ∃ E : ByteArray, E = Utf8.encode (r : Int) := ⟨_, rfl⟩
      have hcv : ∀ W : World, (convert 21 9 (.int .i32 (r : Int))).run Tryz.prog W = .ok (.string E) W := fun W => by rw [hE]; exact run_convert_int_string W 21 9 .i32 r (by kernel_rfl) (by kernel_rfl)
      rw [← hE] at hstep
      have HS : Hid (encGo s.size s.data.toList = (acc ++ E).data.toList ++ encGo b' (s.data.toList.drop (pos + wd))) := by
        show _ = _
        rw [HC.out, hstep, ByteArray.data_append, Array.toList_append, List.append_assoc]
      have HZ : Hid ((acc ++ E).size ≤ 4 * (pos + wd)) := by
        have h4 := encode_size_le (r : Int)
        rw [← hE] at h4
        show _ ≤ _
        rw [ByteArray.size_append]
        omega
      have HFi : Hid (s.size ≤ pos + wd + b') := by show _ ≤ _; omega
      have hE4 : E.size ≤ 4 := by rw [hE]; exact encode_size_le (r : Int)
      have hAE : ¬ 9223372036854775807 < acc.size + E.size := by omega
      clear hr hwd2 hstep HC hE
      go_wp2
      go_roundw
      case rel => exact ⟨pos + wd, b', _, rfl, rfl, HS.out, HFi.out, HZ.out⟩
      case measure => simp; omega
    · have HE : Hid (∀ B, (acc.data.toList = s.data.toList ↔ B = true) → B = validD s.data.toList) := fun B h => by
        have h1 := HC.out
        rw [List.drop_of_length_le (by rw [← Go.Lib.size_eq]; omega), encGo_nil, List.append_nil] at h1
        have h2 := encGo_valid s.size s.data.toList (by rw [← Go.Lib.size_eq]; omega)
        rw [h1] at h2
        rw [Bool.eq_iff_iff, ← h, h2]
      have hnx : ∀ ty, (Instr.next (.pointer (some ⟨w.heap.size, 0, none⟩)) true ty).run Tryz.prog (w.iter s pos) = _ := fun ty => run_next_end w s pos ty hp
      clear HC
      go_wp2
      go_ret
      refine ⟨ret1b (HE.out _ ?_), below_iter _ _ _⟩
      simp [ByteArray.toList_eq]

set_option maxRecDepth 1000000 in
set_option maxHeartbeats 1600000 in
theorem refName_of (B : Bool) (s : ByteArray) (w : World) (hs : s.size ≤ 9223372036854775807) (hG : s.size ≤ 32 → Calls Tryz.prog 109 #[.string s] w fun e w' => e = .returned (.bool B) ∧ Below w.heap.size w w') :
    Calls Tryz.prog 82 #[.string s] w fun e w' => e = .returned (.bool (nameB B s)) ∧ Below w.heap.size w w' := by
  have HGo := hid hG
  clear hG
  go_enter Tryz.func82, Tryz.ntmps82
  by_cases h0 : s.size = 0
  · have he : s.toList.isEmpty = true := by
      have hl : s.toList.length = 0 := by rw [← h0]; simp [ByteArray.toList_eq]
      rw [List.length_eq_zero_iff.mp hl]; rfl
    have HF : Hid (nameB B s = false) := by show _ = _; unfold nameB; rw [decide_eq_true h0]; rfl
    go_wp2
    go_ret
    exact ⟨ret1b HF.out.symm, Below.refl _ _⟩
  · have he : s.toList.isEmpty = false := by
      cases hl : s.toList with
      | nil => exact absurd (by have := congrArg List.length hl; simpa [ByteArray.toList_eq] using this) h0
      | cons a l => rfl
    by_cases h32 : 32 < s.size
    · have HF : Hid (nameB B s = false) := by show _ = _; unfold nameB; rw [decide_eq_true h32]; simp
      go_wp2
      go_ret
      exact ⟨ret1b HF.out.symm, Below.refl _ _⟩
    · go_wp2_with fail
      refine (HGo.out (by omega)).mono ?_
      rintro e w1 ⟨rfl, hb1⟩
      have HB1 : Hid (Below w.heap.size w w1) := hb1
      clear hb1
      cases B
      · have HF : Hid (nameB false s = false) := by show _ = _; unfold nameB; simp
        go_wp2
        go_ret
        exact ⟨ret1b HF.out.symm, HB1.out⟩
      · have HF : Hid (nameB true s = nmGo s s.size 0) := by show _ = _; unfold nameB; rw [decide_eq_false h0, decide_eq_false h32]; rfl
        go_wp2
        go_loopw [] (fun w' => ∃ (pos b : Nat), w' = w1.iter s pos ∧ nmGo s s.size 0 = nmGo s b pos ∧ s.size ≤ pos + b) (fun w' => s.size - w'.iterPos w1.heap.size)
        case atStart => exact ⟨0, s.size, rfl, rfl, by omega⟩
        case round =>
          obtain ⟨pos, b, rfl, hc, hb⟩ := hrel
          have HC : Hid (nmGo s s.size 0 = nmGo s b pos) := hc
          clear hc
          by_cases hp : pos < s.size
          · have hnx0 := fun ty => run_next_any (P := Tryz.prog) w1 s pos ty hp
            have hwd := Go.Lib.width_pos s pos
            obtain ⟨b', rfl⟩ : ∃ b', b = b' + 1 := ⟨b - 1, by omega⟩
            obtain ⟨r, hr⟩ : ∃ r : Nat, r = (Utf8.decode s pos).1 := ⟨_, rfl⟩
            obtain ⟨wd, hwd2⟩ : ∃ wd : Nat, wd = (Utf8.decode s pos).2 := ⟨_, rfl⟩
            obtain ⟨q, hq⟩ : ∃ q : Nat, q = pos + wd := ⟨_, rfl⟩
            have HS : Hid (nmGo s s.size 0 = ((letB (r : Int) || (!decide (pos = 0) && folB (r : Int))) && nmGo s b' q)) := by
              show _ = _
              rw [HC.out, nmGo, if_pos hp, ← hr, ← hwd2, ← hq]
            rw [← hwd2] at hwd
            have HFi : Hid (s.size ≤ q + b') := by show _ ≤ _; omega
            have hqp : pos < q := by omega
            rw [← hr, ← hwd2, ← hq] at hnx0
            have HNx := hid hnx0
            clear hr hwd2 hq HC hnx0
            by_cases hp0 : pos = 0
            · subst hp0
              have hnx : ∀ ty, (Instr.next (.pointer (some ⟨w1.heap.size, 0, none⟩)) true ty).run Tryz.prog (w1.iter s 0) = _ := HNx.out
              go_wp2_with fail
              refine (refLetter_any (r : Int) _).mono ?_
              rintro e w9 ⟨rfl, hw9⟩
              have hw8 := hw9.symm
              subst hw8
              clear hw9 hnx
              cases hL : letB (r : Int)
              · have HFF : Hid (nameB true s = false) := by show _ = _; rw [HF.out, HS.out, hL]; rfl
                go_wp2
                go_ret
                exact ⟨ret1b HFF.out.symm, below_step HB1.out (below_iter _ _ _)⟩
              · have HN : Hid (nmGo s s.size 0 = nmGo s b' q) := by show _ = _; rw [HS.out, hL]; rfl
                have HMo : Hid (morB (r : Int) = true) := by show _ = _; unfold morB; rw [hL]; rfl
                go_wp2_with fail
                refine (refMore_any (r : Int) _).mono ?_
                rintro e w9 ⟨rfl, hw9⟩
                have hw8 := hw9.symm
                subst hw8
                clear hw9
                rw [HMo.out]
                go_wp2
                go_roundw
                case rel => exact ⟨q, b', rfl, HN.out, HFi.out⟩
                case measure => simp; omega
            · have hp0b : ((pos : Int) == 0) = false := by rw [beq_eq_false_iff_ne]; omega
              have hnx : ∀ ty, (Instr.next (.pointer (some ⟨w1.heap.size, 0, none⟩)) true ty).run Tryz.prog (w1.iter s pos) = _ := HNx.out
              go_wp2_with fail
              refine (refMore_any (r : Int) _).mono ?_
              rintro e w9 ⟨rfl, hw9⟩
              have hw8 := hw9.symm
              subst hw8
              clear hw9 hnx
              have HS2 : Hid (nmGo s s.size 0 = (morB (r : Int) && nmGo s b' q)) := by show _ = _; rw [HS.out, decide_eq_false hp0]; rfl
              cases hM : morB (r : Int)
              · have HFF : Hid (nameB true s = false) := by show _ = _; rw [HF.out, HS2.out, hM]; rfl
                go_wp2
                go_ret
                exact ⟨ret1b HFF.out.symm, below_step HB1.out (below_iter _ _ _)⟩
              · have HN : Hid (nmGo s s.size 0 = nmGo s b' q) := by show _ = _; rw [HS2.out, hM]; rfl
                go_wp2
                go_roundw
                case rel => exact ⟨q, b', rfl, HN.out, HFi.out⟩
                case measure => simp; omega
          · have HFF : Hid (nameB true s = true) := by show _ = _; rw [HF.out, HC.out, nmGo_end s b pos hp]
            have hnx : ∀ ty, (Instr.next (.pointer (some ⟨w1.heap.size, 0, none⟩)) true ty).run Tryz.prog (w1.iter s pos) = _ := fun ty => run_next_end w1 s pos ty hp
            go_wp2
            go_ret
            exact ⟨ret1b HFF.out.symm, below_step HB1.out (below_iter _ _ _)⟩

theorem refName_any (s : ByteArray) (w : World) (hs : s.size ≤ 9223372036854775807) :
    Calls Tryz.prog 82 #[.string s] w fun e w' => e = .returned (.bool (nameB (validD s.data.toList) s)) ∧ Below w.heap.size w w' := refName_of _ s w hs fun h => refGood_any s w h

end Go.Proofs.YtoapgbaibpkckaaGreatDoor

/- The document's marked names walked. -/
namespace Go.Proofs.YtoapgbaibpkckaaGreatDoor
open Go.RowKit Go.Maps Go.Lib

set_option maxRecDepth 100000 in
theorem refMarked_any (s : ByteArray) (w : World) (hs : s.size ≤ 9223372036854775807) :
    Calls Tryz.prog 57 #[.string s] w fun e w' => e = .returned (.bool (markB s)) ∧ Below w.heap.size w w' := by
  go_enter Tryz.func57, Tryz.ntmps57
  by_cases h0 : s.size = 0
  · have HF : Hid (markB s = false) := by show _ = _; unfold markB; rw [decide_eq_false (by omega)]; rfl
    go_wp2
    go_ret
    exact ⟨ret1b HF.out.symm, Below.refl _ _⟩
  · have h1 : 0 < s.size := by omega
    have hlast : lastB s = s[s.size - 1]'(by omega) := by
      unfold lastB
      rw [List.getD_eq_getElem?_getD, List.getElem?_eq_getElem (by rw [← Go.Lib.size_eq]; omega), Option.getD_some]
      rfl
    by_cases hc : lastB s = 35
    · have HF : Hid (markB s = nameB (validD (init1 s).data.toList) (init1 s)) := by show _ = _; unfold markB; rw [decide_eq_true h1, decide_eq_true hc]; rfl
      have hz : ((s[s.size - 1]'(by omega)).toNat : Int) = 35 := by rw [← hlast, hc]; rfl
      have hsz : (init1 s).size ≤ 9223372036854775807 := by unfold init1; rw [ByteArray.size_extract]; omega
      have HC := hid (refName_any (init1 s) w hsz)
      generalize nameB (validD (init1 s).data.toList) (init1 s) = B at HF HC
      rw [show init1 s = s.extract 0 (s.size - 1) from rfl] at HC
      clear hlast hc hsz
      go_wp2_with fail
      refine HC.out.mono ?_
      rintro e w1 ⟨rfl, hb1⟩
      go_wp2
      go_ret
      exact ⟨ret1b HF.out.symm, hb1⟩
    · have HF : Hid (markB s = false) := by show _ = _; unfold markB; rw [decide_eq_false hc]; simp
      have hz : ¬ ((s[s.size - 1]'(by omega)).toNat : Int) = 35 := fun h => hc (by
        rw [hlast]
        apply UInt8.toNat_inj.1
        show _ = 35
        omega)
      clear hlast hc
      go_wp2
      go_ret
      exact ⟨ret1b HF.out.symm, Below.refl _ _⟩

end Go.Proofs.YtoapgbaibpkckaaGreatDoor
