/- Texts of the proof, one behind the other. -/
import Derived.Test.YtjcgngfidnechabDoorOwn6
import Derived.Test.YtjcgngfidnechabDoorOwn4
import Derived.Test.YtjcgngfidnechabDoorOwn13
/- What the document's Shift answers. -/
namespace Go.Proofs.YtjcgngfidnechabDoor
open Go.RowKit Go.Maps Go.BigFrame

set_option maxRecDepth 100000 in
set_option maxHeartbeats 1600000 in
theorem refShift_any (v : Value) (t : List Int) (d : Int) (w : World) (h : Is w v t) (hb : t.length * 8 ≤ 140737488351232) (hd1 : -9223372036854775808 ≤ d) (hd2 : d ≤ 9223372036854775807) :
    Calls Tryd.prog 27 #[v, .int .i64 d] w fun e w' => ∃ v', e = .returned (.tuple #[v', .int .i64 (shiftE d t)]) ∧ OwI w' w.heap.size v' (shiftL d t) ∧ Below w.heap.size w w' := by
  obtain ⟨ao, cap, rfl, hao, hca, q0⟩ := Row.flat h
  unfold maxLen at hca
  have HT := hid h
  clear h q0
  go_enter Tryd.func27, Tryd.ntmps27
  go_wp2
  go_loopw [6, 7] (fun x i wr => ∃ k : Nat, k ≤ t.length ∧ i = .int .i64 k ∧ (∀ c ∈ t.take k, c < 0 → isVarB (-1 - c + d) = true) ∧ OwI wr w.heap.size x ((t.take k).map fun c => if c < 0 then c - d else c) ∧ Below w.heap.size w wr) (fun _ i _ => t.length - (intOf i).toNat)
  case atStart => exact ⟨0, Nat.zero_le _, rfl, fun c hc => (by simp at hc), ⟨fun k x hk => (by simp at hk), empty_row _ (Nat.le_refl _)⟩, below_alloc _⟩
  case round =>
    obtain ⟨k, hk, rfl, hpre, how, hbl⟩ := hrel
    have hol : ((t.take k).map fun c => if c < 0 then c - d else c).length = k := by rw [List.length_map, List.length_take]; omega
    obtain ⟨bo, bc, hv, hbc1, hbc2⟩ := how.shape
    rw [hol] at hv hbc1
    subst hv
    unfold maxLen at hbc2
    have HPre := hid hpre
    have HOw := hid how
    have HB := hid hbl
    have HOl := hid hol
    clear hpre how hol
    by_cases hlt : k < t.length
    · obtain ⟨ga, off, c, rfl, hx1, hx2, hx3, hx4⟩ := (HT.out.kp (Kp.of_below hbl)).at hlt
      have HG := hid hx1
      have HMem : Hid (c ∈ t) := List.mem_of_getElem? hx1
      have HPre2' : (c < 0 → isVarB (-1 - c + d) = true) → ∀ x ∈ t.take (k + 1), x < 0 → isVarB (-1 - x + d) = true := fun hcv x hx h0 => by
        rw [List.take_add_one, HG.out, List.mem_append] at hx
        rcases hx with hx | hx
        · exact HPre.out x hx h0
        · simp at hx
          subst hx
          exact hcv h0
      have HPq := hid HPre2'
      clear hx1 hbl HPre2'
      obtain ⟨n, hn⟩ : ∃ n, n = -1 - c := ⟨_, rfl⟩
      have hwn : IntKind.i64.wrap (-1 - c) = n := by rw [hn]; exact IntWalk.i64_in _ ⟨by omega, by omega⟩
      by_cases hc0 : 0 ≤ c
      · have HPre2 := hid (HPq.out (fun h => absurd h (by omega)))
        have hcn : ¬ c < 0 := by omega
        obtain ⟨v4, w4, hr4, ho4, hg4⟩ := join_ints 23 (u := .slice (some ⟨wr.heap.size, 0, none⟩) 1 1) (es := [c]) (HOw.out.later (below_alloc (.cells #[.int .i64 (c)] 3))) (is_new wr [c] _ (by intro x hx; simp at hx; omega) (by simp)) (b1 HB.out).size (by rw [HOl.out]; simp; omega)
        have HR4 := hid hr4
        have HO4 : Hid (OwI w4 w.heap.size v4 ((t.take (k + 1)).map fun c => if c < 0 then c - d else c)) := by
          have h9 := ho4
          rw [List.take_add_one, HG.out, List.map_append]
          simp only [Option.toList, List.map_cons, List.map_nil, if_neg hcn]
          exact h9
        have HB4 : Hid (Below w.heap.size w w4) := (b1 HB.out).grown hg4 (b1 HB.out).size (fun j hj => own_blk HOw.out.2 hj)
        clear hr4 ho4 hg4
        go_wp2_with (first
          | (at_builtin; refine wpList_append_run rfl _ _ _ rfl _ _ rfl rfl HR4.out ?_))
        go_roundw
        case rel => exact ⟨k + 1, by omega, by go_num, HPre2.out, HO4.out, HB4.out⟩
        case measure => simp [intOf]; omega
      · have hcn : c < 0 := by omega
        by_cases hv : isVarB (-1 - c + d) = true
        · have HPre2 := hid (HPq.out (fun _ => hv))
          have hv2 := isVarB_iff.1 hv
          obtain ⟨m, hm⟩ : ∃ m, m = n + d := ⟨_, rfl⟩
          obtain ⟨y, hy⟩ : ∃ y, y = c - d := ⟨_, rfl⟩
          have hwm : IntKind.i64.wrap (n + d) = m := by rw [hm]; exact IntWalk.i64_in _ ⟨by omega, by omega⟩
          have hwy : IntKind.i64.wrap (-1 - m) = y := by rw [IntWalk.i64_in _ ⟨by omega, by omega⟩]; omega
          have hdm : ¬ 1048576 ≤ d := by omega
          have hm0 : ¬ m < 0 := by omega
          have hm1 : ¬ 1048576 ≤ m := by omega
          by_cases hd0 : 0 ≤ d
          · have hwd : IntKind.i64.wrap (1048576 - d) = 1048576 - d := IntWalk.i64_in _ ⟨by omega, by omega⟩
            have hnd : ¬ 1048576 - d ≤ n := by omega
            obtain ⟨v4, w4, hr4, ho4, hg4⟩ := join_ints 23 (u := .slice (some ⟨wr.heap.size, 0, none⟩) 1 1) (es := [y]) (HOw.out.later (below_alloc (.cells #[.int .i64 (y)] 3))) (is_new wr [y] _ (by intro x hx; simp at hx; omega) (by simp)) (b1 HB.out).size (by rw [HOl.out]; simp; omega)
            have HR4 := hid hr4
            have HO4 : Hid (OwI w4 w.heap.size v4 ((t.take (k + 1)).map fun c => if c < 0 then c - d else c)) := by
              have h9 := ho4
              rw [List.take_add_one, HG.out, List.map_append]
              simp only [Option.toList, List.map_cons, List.map_nil, if_pos hcn, ← hy]
              exact h9
            have HB4 : Hid (Below w.heap.size w w4) := (b1 HB.out).grown hg4 (b1 HB.out).size (fun j hj => own_blk HOw.out.2 hj)
            clear hr4 ho4 hg4 hn hm hy hv hv2
            go_wp2_with (first
              | (at_builtin; refine wpList_append_run rfl _ _ _ rfl _ _ rfl rfl HR4.out ?_))
            go_roundw
            case rel => exact ⟨k + 1, by omega, by go_num, HPre2.out, HO4.out, HB4.out⟩
            case measure => simp [intOf]; omega
          · have hnd : ¬ 0 ≤ d := hd0
            obtain ⟨v4, w4, hr4, ho4, hg4⟩ := join_ints 23 (u := .slice (some ⟨wr.heap.size, 0, none⟩) 1 1) (es := [y]) (HOw.out.later (below_alloc (.cells #[.int .i64 (y)] 3))) (is_new wr [y] _ (by intro x hx; simp at hx; omega) (by simp)) (b1 HB.out).size (by rw [HOl.out]; simp; omega)
            have HR4 := hid hr4
            have HO4 : Hid (OwI w4 w.heap.size v4 ((t.take (k + 1)).map fun c => if c < 0 then c - d else c)) := by
              have h9 := ho4
              rw [List.take_add_one, HG.out, List.map_append]
              simp only [Option.toList, List.map_cons, List.map_nil, if_pos hcn, ← hy]
              exact h9
            have HB4 : Hid (Below w.heap.size w w4) := (b1 HB.out).grown hg4 (b1 HB.out).size (fun j hj => own_blk HOw.out.2 hj)
            clear hr4 ho4 hg4 hn hm hy hv hv2
            go_wp2_with (first
              | (at_builtin; refine wpList_append_run rfl _ _ _ rfl _ _ rfl rfl HR4.out ?_))
            go_roundw
            case rel => exact ⟨k + 1, by omega, by go_num, HPre2.out, HO4.out, HB4.out⟩
            case measure => simp [intOf]; omega
        · have HE : Hid (shiftE d t = 40 ∧ shiftL d t = []) := by
            have hno : ¬ okShift d t = true := fun h => hv (by
              have := List.all_eq_true.1 h c HMem.out
              simpa [hcn] using this)
            exact ⟨by unfold shiftE; rw [if_neg hno], by unfold shiftL; rw [if_neg hno]⟩
          have hv2 : ¬ (0 ≤ -1 - c + d ∧ -1 - c + d < 1048576) := fun h => hv (isVarB_iff.2 h)
          obtain ⟨m, hm⟩ : ∃ m, m = n + d := ⟨_, rfl⟩
          by_cases hd9 : 1048576 ≤ d
          · go_wp2
            go_ret2
            exact ⟨_, ret2i HE.out.1.symm, by rw [HE.out.2]; exact nilI _ _, HB.out⟩
          · by_cases hd0 : 0 ≤ d
            · have hwd : IntKind.i64.wrap (1048576 - d) = 1048576 - d := IntWalk.i64_in _ ⟨by omega, by omega⟩
              have hnd : 1048576 - d ≤ n := by omega
              go_wp2
              go_ret2
              exact ⟨_, ret2i HE.out.1.symm, by rw [HE.out.2]; exact nilI _ _, HB.out⟩
            · have hwm : IntKind.i64.wrap (n + d) = m := by rw [hm]; exact IntWalk.i64_in _ ⟨by omega, by omega⟩
              by_cases hm0 : m < 0
              · go_wp2
                go_ret2
                exact ⟨_, ret2i HE.out.1.symm, by rw [HE.out.2]; exact nilI _ _, HB.out⟩
              · have hm1 : 1048576 ≤ m := by omega
                go_wp2
                go_ret2
                exact ⟨_, ret2i HE.out.1.symm, by rw [HE.out.2]; exact nilI _ _, HB.out⟩
    · have hke : k = t.length := by omega
      subst hke
      have HE : Hid (shiftE d t = 0 ∧ shiftL d t = t.map fun c => if c < 0 then c - d else c) := by
        have h9 := HPre.out
        rw [List.take_length] at h9
        have hok : okShift d t = true := List.all_eq_true.2 fun c hc => by
          by_cases h0 : c < 0
          · simp [h9 c hc h0]
          · simp [h0]
        exact ⟨by unfold shiftE; rw [if_pos hok], by unfold shiftL; rw [if_pos hok]⟩
      rw [List.take_length] at HOw
      go_wp2
      go_ret2
      exact ⟨_, ret2i HE.out.1.symm, by rw [HE.out.2]; exact HOw.out, HB.out⟩

end Go.Proofs.YtjcgngfidnechabDoor


/- Canon, plainly: it is blind to a renaming, and numbers what it numbered the same again. -/
namespace Go.Proofs.YtjcgngfidnechabDoor
open Go.RowKit Go.Maps

/-- A code whose variable has another number. -/
def reC (f : Int → Int) (c : Int) : Int := if c < 0 then -1 - f (-1 - c) else c
def reK (f : Int → Int) (m : Met) : Met := m.map fun p => (f p.1, p.2)

theorem reK_lookup {f : Int → Int} {S : Int → Prop} (hf : ∀ a b, S a → S b → f a = f b → a = b) (n : Int) (hn : S n) : ∀ m : Met, (∀ p ∈ m, S p.1) → (reK f m).lookup (f n) = m.lookup n
  | [], _ => rfl
  | (k, i) :: m, h => by
    show List.lookup (f n) ((f k, i) :: reK f m) = _
    rw [List.lookup_cons, List.lookup_cons]
    have hk := h _ (.head _)
    by_cases e : n = k
    · subst e
      simp
    · rw [show (n == k) = false by simpa using e, show (f n == f k) = false by simp; exact fun e2 => e (hf n k hn hk e2)]
      exact reK_lookup hf n hn m (fun p hp => h p (.tail _ hp))

theorem numN_re {f : Int → Int} {S : Int → Prop} (hf : ∀ a b, S a → S b → f a = f b → a = b) (m : Met) (n : Int) (hm : ∀ p ∈ m, S p.1) (hn : S n) :
    numN (reK f m) (f n) = ((numN m n).1, reK f (numN m n).2) ∧ ∀ p ∈ (numN m n).2, S p.1 := by
  unfold numN
  rw [reK_lookup hf n hn m hm]
  cases m.lookup n with
  | some i => exact ⟨rfl, hm⟩
  | none =>
    refine ⟨by simp [reK], fun p hp => ?_⟩
    cases hp with
    | head => exact hn
    | tail _ hp => exact hm p hp

theorem renG_re {f : Int → Int} {S : Int → Prop} (hf : ∀ a b, S a → S b → f a = f b → a = b) (h0 : ∀ a, S a → 0 ≤ f a) : ∀ (t : List Int) (m : Met), (∀ p ∈ m, S p.1) → (∀ c ∈ t, c < 0 → S (-1 - c)) →
    renG numN (reK f m) (t.map (reC f)) = ((renG numN m t).1, reK f (renG numN m t).2) ∧ ∀ p ∈ (renG numN m t).2, S p.1
  | [], m, hm, _ => ⟨rfl, hm⟩
  | c :: t, m, hm, ht => by
    by_cases hc : c < 0
    · have hs := ht c (.head _) hc
      obtain ⟨e1, e2⟩ := numN_re hf m (-1 - c) hm hs
      obtain ⟨e3, e4⟩ := renG_re hf h0 t (numN m (-1 - c)).2 e2 (fun x hx => ht x (.tail _ hx))
      have hr : reC f c = -1 - f (-1 - c) := by unfold reC; rw [if_pos hc]
      have hneg : -1 - f (-1 - c) < 0 := by have := h0 _ hs; omega
      rw [List.map_cons, hr]
      simp only [renG, if_pos hneg, if_pos hc, show -1 - (-1 - f (-1 - c)) = f (-1 - c) by omega, e1, e3]
      exact ⟨trivial, e4⟩
    · obtain ⟨e3, e4⟩ := renG_re hf h0 t m hm (fun x hx => ht x (.tail _ hx))
      have hr : reC f c = c := by unfold reC; rw [if_neg hc]
      rw [List.map_cons, hr]
      simp only [renG, if_neg hc, e3]
      exact ⟨trivial, e4⟩

theorem canG_re {f : Int → Int} {S : Int → Prop} (hf : ∀ a b, S a → S b → f a = f b → a = b) (h0 : ∀ a, S a → 0 ≤ f a) : ∀ (l : List (List Int)) (m : Met), (∀ p ∈ m, S p.1) → (∀ t ∈ l, ∀ c ∈ t, c < 0 → S (-1 - c)) →
    canG (reK f m) (l.map fun t => t.map (reC f)) = canG m l
  | [], _, _, _ => rfl
  | t :: l, m, hm, hl => by
    obtain ⟨e1, e2⟩ := renG_re hf h0 t m hm (hl t (.head _))
    rw [List.map_cons]
    simp only [canG, e1]
    rw [canG_re hf h0 l _ e2 (fun x hx => hl x (.tail _ hx))]

/-- A row shifted is a row renamed. -/
theorem canL_shift (d : Int) (l : List (List Int)) (hl : ∀ t ∈ l, ∀ c ∈ t, c < 0 → 0 ≤ -1 - c + d) : canL (l.map fun t => t.map fun c => if c < 0 then c - d else c) = canL l := by
  have h := canG_re (f := fun n => n + d) (S := fun n => 0 ≤ n + d) (fun a b _ _ e => by omega) (fun a h => h) l [] (fun p hp => (by cases hp)) hl
  have e : (fun t : List Int => t.map (reC fun n => n + d)) = fun t => t.map fun c => if c < 0 then c - d else c := by
    funext t
    congr 1
    funext c
    unfold reC
    by_cases hc : c < 0
    · rw [if_pos hc, if_pos hc]
      show -1 - (-1 - c + d) = c - d
      omega
    · rw [if_neg hc, if_neg hc]
  rw [e] at h
  exact h

/-- What is met behind all rows. -/
def canS : Met → List (List Int) → Met
  | m, [] => m
  | m, t :: l => canS (renG numN m t).2 l

/-- What one holds the other holds. -/
def Ext (m m' : Met) : Prop := ∀ n i, m.lookup n = some i → m'.lookup n = some i

theorem ext_num (m : Met) (n : Int) : Ext m (numN m n).2 := fun k i hk => by
  unfold numN
  cases hn : m.lookup n with
  | some j => exact hk
  | none =>
    have e : k ≠ n := fun e => by rw [e, hn] at hk; cases hk
    show List.lookup k ((n, (m.length : Int)) :: m) = _
    rw [List.lookup_cons, show (k == n) = false by simpa using e]
    exact hk

theorem val_num (m : Met) (n : Int) : (numN m n).2.lookup n = some (numN m n).1 := by
  unfold numN
  cases hn : m.lookup n with
  | some j => exact hn
  | none =>
    show List.lookup n ((n, (m.length : Int)) :: m) = _
    rw [List.lookup_cons, show (n == n) = true by simp]

theorem ext_ren : ∀ (t : List Int) (m : Met), Ext m (renG numN m t).2
  | [], _ => fun _ _ h => h
  | c :: t, m => fun n i h => by
    unfold renG
    split
    · exact ext_ren t _ n i (ext_num m (-1 - c) n i h)
    · exact ext_ren t m n i h

theorem ext_can : ∀ (l : List (List Int)) (m : Met), Ext m (canS m l)
  | [], _ => fun _ _ h => h
  | t :: l, m => fun n i h => ext_can l _ n i (ext_ren t m n i h)

/-- The number that a variable has in the end. -/
def numF (F : Met) (n : Int) : Int := (F.lookup n).getD 0

theorem ren_map (F : Met) : ∀ (t : List Int) (m : Met), Ext (renG numN m t).2 F → (renG numN m t).1 = t.map (reC (numF F)) ∧ ∀ c ∈ t, c < 0 → (F.lookup (-1 - c)).isSome = true
  | [], _, _ => ⟨rfl, fun c hc => (by cases hc)⟩
  | c :: t, m, h => by
    by_cases hc : c < 0
    · have e : renG numN m (c :: t) = ((-1 - (numN m (-1 - c)).1) :: (renG numN (numN m (-1 - c)).2 t).1, (renG numN (numN m (-1 - c)).2 t).2) := by simp only [renG, if_pos hc]
      rw [e] at h
      obtain ⟨h1, h2⟩ := ren_map F t (numN m (-1 - c)).2 h
      have hv := h _ _ (ext_ren t _ _ _ (val_num m (-1 - c)))
      refine ⟨?_, fun x hx hx0 => ?_⟩
      · rw [e, List.map_cons, ← h1]
        simp only [reC, if_pos hc, numF, hv, Option.getD_some]
      · cases hx with
        | head => rw [hv]; rfl
        | tail _ hx => exact h2 x hx hx0
    · have e : renG numN m (c :: t) = (c :: (renG numN m t).1, (renG numN m t).2) := by simp only [renG, if_neg hc]
      rw [e] at h
      obtain ⟨h1, h2⟩ := ren_map F t m h
      refine ⟨?_, fun x hx hx0 => ?_⟩
      · rw [e, List.map_cons, ← h1]
        simp only [reC, if_neg hc]
      · cases hx with
        | head => exact absurd hx0 hc
        | tail _ hx => exact h2 x hx hx0

theorem can_map (F : Met) : ∀ (l : List (List Int)) (m : Met), Ext (canS m l) F → canG m l = (l.map fun t => t.map (reC (numF F))) ∧ ∀ t ∈ l, ∀ c ∈ t, c < 0 → (F.lookup (-1 - c)).isSome = true
  | [], _, _ => ⟨rfl, fun t ht => (by cases ht)⟩
  | t :: l, m, h => by
    obtain ⟨h1, h2⟩ := can_map F l (renG numN m t).2 h
    obtain ⟨h3, h4⟩ := ren_map F t m (fun n i hn => h n i (ext_can l _ n i hn))
    refine ⟨by rw [List.map_cons, ← h1, ← h3]; rfl, fun x hx => ?_⟩
    cases hx with
    | head => exact h4
    | tail _ hx => exact h2 x hx

/-- Unlike variables have unlike numbers, none below 0, none from the count on. -/
def Apt (m : Met) : Prop := (∀ a b i, m.lookup a = some i → m.lookup b = some i → a = b) ∧ ∀ p ∈ m, 0 ≤ p.2 ∧ p.2 < (m.length : Int)

theorem apt_num {m : Met} (h : Apt m) (n : Int) : Apt (numN m n).2 := by
  refine ⟨?_, (numN_in h.2).2⟩
  unfold numN
  cases hn : m.lookup n with
  | some j => exact h.1
  | none =>
    intro a b i ha hb
    rw [List.lookup_cons] at ha hb
    by_cases ea : a = n
    · by_cases eb : b = n
      · rw [ea, eb]
      · subst ea
        rw [show (b == a) = false by simpa using eb] at hb
        simp at ha
        have := h.2 _ (lookup_mem hb)
        simp only at this
        omega
    · rw [show (a == n) = false by simpa using ea] at ha
      by_cases eb : b = n
      · subst eb
        simp at hb
        have := h.2 _ (lookup_mem ha)
        simp only at this
        omega
      · rw [show (b == n) = false by simpa using eb] at hb
        exact h.1 a b i ha hb

theorem apt_ren : ∀ (t : List Int) (m : Met), Apt m → Apt (renG numN m t).2
  | [], _, h => h
  | c :: t, m, h => by
    unfold renG
    split
    · exact apt_ren t _ (apt_num h _)
    · exact apt_ren t m h

theorem apt_can : ∀ (l : List (List Int)) (m : Met), Apt m → Apt (canS m l)
  | [], _, h => h
  | t :: l, m, h => apt_can l _ (apt_ren t m h)

/-- Canon of what Canon numbered is the same. -/
theorem canL_again (l : List (List Int)) : canL (canL l) = canL l := by
  have hA : Apt (canS [] l) := apt_can l [] ⟨fun a b i h => (by cases h), fun p hp => (by cases hp)⟩
  obtain ⟨h1, h2⟩ := can_map (canS [] l) l [] (fun _ _ h => h)
  have h3 := canG_re (f := numF (canS [] l)) (S := fun n => ((canS [] l).lookup n).isSome = true) (fun a b ha hb e => by
    obtain ⟨i, hi⟩ := Option.isSome_iff_exists.1 ha
    obtain ⟨j, hj⟩ := Option.isSome_iff_exists.1 hb
    simp only [numF, hi, hj, Option.getD_some] at e
    subst e
    exact hA.1 a b i hi hj) (fun a ha => by
    obtain ⟨i, hi⟩ := Option.isSome_iff_exists.1 ha
    simp only [numF, hi, Option.getD_some]
    exact (hA.2 _ (lookup_mem hi)).1) l [] (fun p hp => (by cases hp)) h2
  unfold canL
  rw [h1]
  rw [h1] at h3
  exact h3

end Go.Proofs.YtjcgngfidnechabDoor

/- Shift, and back. -/
namespace Go.Proofs.YtjcgngfidnechabDoor
open Go.RowKit Go.Maps

theorem isVarB_iff2 {n : Int} : isVarB n = true ↔ 0 ≤ n ∧ n < 1048576 := isVarB_iff

theorem shift_cell {d c : Int} (h : c < 0 → isVarB (-1 - c + d) = true) : (if c < 0 then c - d else c) < 0 ↔ c < 0 := by
  by_cases hc : c < 0
  · have := isVarB_iff2.1 (h hc)
    rw [if_pos hc]
    omega
  · rw [if_neg hc]

theorem okShift_cons (d c : Int) (t : List Int) : okShift d (c :: t) = true ↔ (c < 0 → isVarB (-1 - c + d) = true) ∧ okShift d t = true := by
  unfold okShift
  rw [List.all_cons, Bool.and_eq_true]
  refine and_congr_left fun _ => ?_
  by_cases hc : c < 0
  · simp [hc]
  · simp [hc]

/-- What was shifted is shifted back just if all numbers were those of variables. -/
theorem shift_back (d : Int) : ∀ t : List Int, okShift d t = true → (okShift (-d) (t.map fun c => if c < 0 then c - d else c) = true ↔ ∀ c ∈ t, -1048576 ≤ c) ∧ ((t.map fun c => if c < 0 then c - d else c).map fun c => if c < 0 then c - -d else c) = t
  | [], _ => ⟨⟨fun _ c hc => (by cases hc), fun _ => rfl⟩, rfl⟩
  | c :: t, h => by
    obtain ⟨h1, h2⟩ := (okShift_cons d c t).1 h
    obtain ⟨h3, h4⟩ := shift_back d t h2
    have hs := shift_cell h1
    refine ⟨?_, ?_⟩
    · rw [List.map_cons, okShift_cons, h3, hs]
      refine ⟨fun ⟨k1, k2⟩ x hx => ?_, fun k => ⟨fun hc => ?_, fun x hx => k x (.tail _ hx)⟩⟩
      · cases hx with
        | head =>
          by_cases hc : c < 0
          · have := k1 hc
            rw [if_pos hc, isVarB_iff2] at this
            omega
          · omega
        | tail _ hx => exact k2 x hx
      · have := k c (.head _)
        rw [if_pos hc, isVarB_iff2]
        omega
    · rw [List.map_cons, List.map_cons, h4]
      congr 1
      by_cases hc : c < 0
      · rw [if_pos (hs.2 hc), if_pos hc]
        omega
      · rw [if_neg (fun h => hc (hs.1 h)), if_neg hc]

end Go.Proofs.YtjcgngfidnechabDoor

/- MatchKinds. -/
namespace Go.Proofs.YtjcgngfidnechabDoor
open Go.RowKit Go.Maps Go.BigFrame

def movL (d : Int) (t : List Int) : List Int := t.map fun c => if c < 0 then c - d else c

theorem mov_ok {d : Int} {t : List Int} (h : okShift d t = true) : shiftE d t = 0 ∧ shiftL d t = movL d t := by
  unfold shiftE shiftL
  rw [if_pos h, if_pos h]
  exact ⟨rfl, rfl⟩

theorem mov_no {d : Int} {t : List Int} (h : ¬ okShift d t = true) : shiftE d t = 40 := by
  unfold shiftE
  rw [if_neg h]

theorem mov_code {sig : List Sy} {d c : Int} (h : c < 0 → isVarB (-1 - c + d) = true) (hc : codeD sig c ≠ none) : codeD sig (if c < 0 then c - d else c) = codeD sig c := by
  by_cases h0 : c < 0
  · rw [if_pos h0]
    have h1 := isVarB_iff.1 (h h0)
    have h2 : ¬ c < -1048576 := fun h2 => hc (codeD_none (.inr h2))
    unfold codeD
    rw [if_neg (by omega), if_pos (by omega), if_neg (by omega), if_pos (by omega)]
  · rw [if_neg h0]

theorem mov_first {sig : List Sy} {d : Int} : ∀ (t : List Int) (m : Int) (i : Nat), okShift d t = true → (∀ c ∈ t, codeD sig c ≠ none) → firstT sig m i (movL d t) = firstT sig m i t
  | [], _, _, _, _ => rfl
  | c :: t, m, i, ho, hc => by
    have h1 : (c < 0 → isVarB (-1 - c + d) = true) ∧ okShift d t = true := by
      unfold okShift at ho ⊢
      rw [List.all_cons, Bool.and_eq_true] at ho
      refine ⟨fun h0 => ?_, ho.2⟩
      have := ho.1
      simpa [h0] using this
    have e : movL d (c :: t) = (if c < 0 then c - d else c) :: movL d t := rfl
    rw [e]
    unfold firstT
    rw [mov_code h1.1 (hc c (by simp))]
    cases codeD sig c with
    | none => rfl
    | some x =>
      simp only
      rw [mov_first t _ _ h1.2 (fun y hy => hc y (by simp [hy]))]

theorem first_codes {sig : List Sy} : ∀ (t : List Int) (m : Int) (i : Nat), firstT sig m i t = ((i : Int) + t.length, 0) → ∀ c ∈ t, codeD sig c ≠ none
  | [], _, _, _, c, hc => by simp at hc
  | a :: t, m, i, h, c, hc => by
    unfold firstT at h
    cases ha : codeD sig a with
    | none => rw [ha] at h; simp at h
    | some x =>
      rw [ha] at h
      simp only at h
      by_cases h0 : m + x = 0
      · rw [if_pos h0] at h
        have h2 := congrArg Prod.fst h
        simp only [List.length_cons] at h2
        have h3 : t.length = 0 := by omega
        obtain rfl := List.eq_nil_of_length_eq_zero h3
        rw [List.mem_singleton] at hc
        subst hc
        rw [ha]
        simp
      · rw [if_neg h0] at h
        rcases List.mem_cons.1 hc with rfl | hc
        · rw [ha]; simp
        · refine first_codes t (m + x) (i + 1) ?_ c hc
          rw [h]
          simp only [List.length_cons]
          congr 1
          push_cast
          omega

theorem mov_row {sig : List Sy} {d : Int} {t : List Int} (ho : okShift d t = true) (h : rowE sig t = 0) : rowE sig (movL d t) = 0 := by
  have h1 := first_right h []
  rw [List.append_nil] at h1
  have h2 := mov_first (sig := sig) t 1 0 ho (first_codes t 1 0 (by rw [h1]; simp))
  unfold rowE at h ⊢
  rw [h2]
  have h3 : (movL d t).length = t.length := by unfold movL; simp
  rw [h3]
  exact h

theorem mov_term {sig : List Sy} {d : Int} {t : List Int} (ho : okShift d t = true) (h : termE sig t = 0) : termE sig (movL d t) = 0 := by
  unfold termE at h ⊢
  by_cases hs : sigE sig = 0
  · rw [if_pos hs] at h ⊢
    exact mov_row ho h
  · rw [if_neg hs] at h
    exact absurd h hs

theorem mov_can {d : Int} {p q : List Int} (h1 : okShift d p = true) (h2 : okShift d q = true) : canL [movL d p, movL d q] = canL [p, q] := by
  refine canL_shift d [p, q] fun t ht c hc h0 => ?_
  have ho : okShift d t = true := by
    simp only [List.mem_cons, List.not_mem_nil, or_false] at ht
    rcases ht with rfl | rfl
    · exact h1
    · exact h2
  have h3 := List.all_eq_true.1 ho c hc
  have h4 : isVarB (-1 - c + d) = true := by simpa [h0] using h3
  exact (isVarB_iff.1 h4).1

/-- Variant's answer. -/
def varB (sig : List Sy) (p q r s : List Int) : Bool := termsB sig [p, q, r, s] && decide (canL [p, q] = canL [r, s])

theorem varB_iff {sig : List Sy} {p q r s : List Int} : varB sig p q r s = true ↔ (termE sig p = 0 ∧ termE sig q = 0 ∧ termE sig r = 0 ∧ termE sig s = 0) ∧ canL [p, q] = canL [r, s] := by
  unfold varB termsB
  simp

theorem varB_symm (sig : List Sy) (p q r s : List Int) : varB sig p q r s = varB sig r s p q := by
  rw [Bool.eq_iff_iff, varB_iff, varB_iff]
  constructor
  · rintro ⟨⟨a, b, c, d⟩, e⟩; exact ⟨⟨c, d, a, b⟩, e.symm⟩
  · rintro ⟨⟨a, b, c, d⟩, e⟩; exact ⟨⟨c, d, a, b⟩, e.symm⟩

theorem varB_trans {sig : List Sy} {p q r s x y : List Int} (h1 : varB sig p q r s = true) (h2 : varB sig r s x y = true) : varB sig p q x y = true := by
  rw [varB_iff] at h1 h2 ⊢
  exact ⟨⟨h1.1.1, h1.1.2.1, h2.1.2.2.1, h2.1.2.2.2⟩, h1.2.trans h2.2⟩

set_option maxRecDepth 100000 in
set_option maxHeartbeats 6400000 in
theorem matchKinds_any (sv v0 v1 v2 v3 v4 v5 : Value) (sig : List Sy) (z0 : List Int) (z1 : List Int) (z2 : List Int) (z3 : List Int) (z4 : List Int) (z5 : List Int) (d : Int) (w : World) (hs : Sg w sv sig) (i0 : Is w v0 z0) (i1 : Is w v1 z1) (i2 : Is w v2 z2) (i3 : Is w v3 z3) (i4 : Is w v4 z4) (i5 : Is w v5 z5) (hT : Tabs w) (l0 : z0.length * 8 ≤ 140737488351232) (l1 : z1.length * 8 ≤ 140737488351232) (l2 : z2.length * 8 ≤ 140737488351232) (l3 : z3.length * 8 ≤ 140737488351232) (l4 : z4.length * 8 ≤ 140737488351232) (l5 : z5.length * 8 ≤ 140737488351232) (hd1 : -9223372036854775808 ≤ d) (hd2 : d ≤ 9223372036854775807) :
    Calls Tryd.prog 7 #[sv, .agg #[v0, v1, v2, v3, v4, v5], .int .i64 d] w fun e w' => e = .returned (.bool true) ∧ Below w.heap.size w w' := by
  obtain ⟨a0, c0, e0, _⟩ := i0.flatI
  subst e0
  obtain ⟨a1, c1, e1, _⟩ := i1.flatI
  subst e1
  obtain ⟨a2, c2, e2, _⟩ := i2.flatI
  subst e2
  obtain ⟨a3, c3, e3, _⟩ := i3.flatI
  subst e3
  obtain ⟨a4, c4, e4, _⟩ := i4.flatI
  subst e4
  obtain ⟨a5, c5, e5, _⟩ := i5.flatI
  subst e5
  obtain ⟨so, sc, rfl, _, _, _⟩ := Row.flat hs
  have HS := hid hs
  have HT := hid hT
  have HI0 := hid i0
  have HL0 := hid l0
  have HI1 := hid i1
  have HL1 := hid l1
  have HI2 := hid i2
  have HL2 := hid l2
  have HI3 := hid i3
  have HL3 := hid l3
  have HI4 := hid i4
  have HL4 := hid l4
  have HI5 := hid i5
  have HL5 := hid l5
  clear hs hT i0 i1 i2 i3 i4 i5 l0 l1 l2 l3 l4 l5
  obtain ⟨w0, hw0⟩ : ∃ X, X = w.alloc (.cells #[.slice a0 z0.length c0, .slice a1 z1.length c1, .slice a2 z2.length c2, .slice a3 z3.length c3, .slice a4 z4.length c4, .slice a5 z5.length c5] 48) := ⟨_, rfl⟩
  have HB0 : Hid (Below w.heap.size w w0) := by rw [hw0]; exact below_alloc _
  have HC : Hid (∀ W, Below w0.heap.size w0 W → W.cell? ⟨w.heap.size, 0, none⟩ = some (.slice a0 z0.length c0) ∧ W.cell? ⟨w.heap.size, 1, none⟩ = some (.slice a1 z1.length c1) ∧ W.cell? ⟨w.heap.size, 2, none⟩ = some (.slice a2 z2.length c2) ∧ W.cell? ⟨w.heap.size, 3, none⟩ = some (.slice a3 z3.length c3) ∧ W.cell? ⟨w.heap.size, 4, none⟩ = some (.slice a4 z4.length c4) ∧ W.cell? ⟨w.heap.size, 5, none⟩ = some (.slice a5 z5.length c5)) := fun W hW => by
    have hk := Kp.of_below hW
    rw [hw0] at hk
    exact ⟨hk.cell _ _ (cell_new rfl), hk.cell _ _ (cell_new rfl), hk.cell _ _ (cell_new rfl), hk.cell _ _ (cell_new rfl), hk.cell _ _ (cell_new rfl), hk.cell _ _ (cell_new rfl)⟩
  have C0 : Hid (Below w0.heap.size w0 w0) := Below.refl _ _
  go_enter Tryd.func7, Tryd.ntmps7
  go_wp2_with fail
  rw [← hw0]
  clear hw0
  refine (shown5_any w0 (HT.out.below HB0.out)).mono ?_
  rintro e w1 ⟨rfl, hb1⟩
  have C1 := hid hb1
  clear hb1
  obtain ⟨x0, x1, x2, x3, x4, x5⟩ := HC.out w1 C1.out
  go_wp2_with fail
  refine (refCheck_any _ _ sig z0 w1 (HS.out.kp (Kp.of_below (below_step HB0.out C1.out))) (HI0.out.kp (Kp.of_below (below_step HB0.out C1.out))) HL0.out).mono ?_
  rintro e w2 ⟨rfl, hb2⟩
  have C2 := hid (below_step C1.out hb2)
  have D2 := hid hb2
  clear hb2 x0 x1 x2 x3 x4 x5
  obtain ⟨x0, x1, x2, x3, x4, x5⟩ := HC.out w2 C2.out
  go_wp2_with fail
  refine (refCheck_any _ _ sig z1 w2 (HS.out.kp (Kp.of_below (below_step HB0.out C2.out))) (HI1.out.kp (Kp.of_below (below_step HB0.out C2.out))) HL1.out).mono ?_
  rintro e w3 ⟨rfl, hb3⟩
  have C3 := hid (below_step C2.out hb3)
  have D3 := hid hb3
  clear hb3 x0 x1 x2 x3 x4 x5
  by_cases h0 : termE sig z0 = 0
  · by_cases h1 : termE sig z1 = 0
    · rw [h0, h1]
      have H0 := hid h0
      have H1 := hid h1
      clear h0 h1
      obtain ⟨x0, x1, x2, x3, x4, x5⟩ := HC.out w3 C3.out
      go_wp2_with fail
      refine (variant_any _ _ _ _ _ sig z0 z1 z0 z1 w3 (HS.out.kp (Kp.of_below (below_step HB0.out C3.out))) (HI0.out.kp (Kp.of_below (below_step HB0.out C3.out))) (HI1.out.kp (Kp.of_below (below_step HB0.out C3.out))) (HI0.out.kp (Kp.of_below (below_step HB0.out C3.out))) (HI1.out.kp (Kp.of_below (below_step HB0.out C3.out))) (HT.out.below (below_step HB0.out C3.out)) HL0.out HL1.out HL0.out HL1.out).mono ?_
      rintro e w4 ⟨rfl, hb4⟩
      have C4 := hid (below_step C3.out hb4)
      have D4 := hid hb4
      clear hb4 x0 x1 x2 x3 x4 x5
      have hown : (termsB sig [z0, z1, z0, z1] && decide (canL [z0, z1] = canL [z0, z1])) = true := varB_iff.2 ⟨⟨H0.out, H1.out, H0.out, H1.out⟩, rfl⟩
      rw [hown]
      clear hown
      obtain ⟨x0, x1, x2, x3, x4, x5⟩ := HC.out w4 C4.out
      go_wp2_with fail
      refine (refShift_any _ z0 d w4 (HI0.out.kp (Kp.of_below (below_step HB0.out C4.out))) HL0.out hd1 hd2).mono ?_
      rintro e w5 ⟨va, rfl, hoa, hb5⟩
      have C5 := hid (below_step C4.out hb5)
      have D5 := hid hb5
      clear hb5 x0 x1 x2 x3 x4 x5
      obtain ⟨aa, ca, hva, _⟩ := hoa.shape
      subst hva
      have OA := hid hoa.is
      clear hoa
      obtain ⟨x0, x1, x2, x3, x4, x5⟩ := HC.out w5 C5.out
      go_wp2_with fail
      refine (refShift_any _ z1 d w5 (HI1.out.kp (Kp.of_below (below_step HB0.out C5.out))) HL1.out hd1 hd2).mono ?_
      rintro e w6 ⟨vb, rfl, hob, hb6⟩
      have C6 := hid (below_step C5.out hb6)
      have D6 := hid hb6
      clear hb6 x0 x1 x2 x3 x4 x5
      obtain ⟨ab, cb, hvb, _⟩ := hob.shape
      subst hvb
      have OB2 := hid hob.is
      clear hob
      by_cases k0 : okShift d z0 = true
      · by_cases k1 : okShift d z1 = true
        · have n0 := (mov_ok k0).1
          have n1 := (mov_ok k1).1
          have m0 := (mov_ok k0).2
          have m1 := (mov_ok k1).2
          rw [n0, n1, m0, m1]
          have PA : Hid (Is w6 (.slice aa (movL d z0).length ca) (movL d z0)) := by have h9 := OA.out.kp (Kp.of_below D6.out); rw [m0] at h9; exact h9
          have PB : Hid (Is w6 (.slice ab (movL d z1).length cb) (movL d z1)) := by have h9 := OB2.out; rw [m1] at h9; exact h9
          have HM0 : Hid ((movL d z0).length * 8 ≤ 140737488351232) := by have h9 := HL0.out; unfold movL; show _ ≤ _; rw [List.length_map]; exact h9
          have HM1 : Hid ((movL d z1).length * 8 ≤ 140737488351232) := by have h9 := HL1.out; unfold movL; show _ ≤ _; rw [List.length_map]; exact h9
          have HV : Hid (varB sig z0 z1 (movL d z0) (movL d z1) = true) := varB_iff.2 ⟨⟨H0.out, H1.out, mov_term k0 H0.out, mov_term k1 H1.out⟩, (mov_can k0 k1).symm⟩
          clear n0 n1 m0 m1 k0 k1 OA OB2
          obtain ⟨x0, x1, x2, x3, x4, x5⟩ := HC.out w6 C6.out
          go_wp2_with fail
          refine (variant_any _ _ _ _ _ sig z0 z1 (movL d z0) (movL d z1) w6 (HS.out.kp (Kp.of_below (below_step HB0.out C6.out))) (HI0.out.kp (Kp.of_below (below_step HB0.out C6.out))) (HI1.out.kp (Kp.of_below (below_step HB0.out C6.out))) PA.out PB.out (HT.out.below (below_step HB0.out C6.out)) HL0.out HL1.out HM0.out HM1.out).mono ?_
          rintro e w7 ⟨rfl, hb7⟩
          have C7 := hid (below_step C6.out hb7)
          have D7 := hid hb7
          clear hb7 x0 x1 x2 x3 x4 x5
          have hv1 : (termsB sig [z0, z1, movL d z0, movL d z1] && decide (canL [z0, z1] = canL [movL d z0, movL d z1])) = true := HV.out
          rw [hv1]
          clear hv1
          obtain ⟨x0, x1, x2, x3, x4, x5⟩ := HC.out w7 C7.out
          go_wp2_with fail
          refine (variant_any _ _ _ _ _ sig (movL d z0) (movL d z1) z0 z1 w7 (HS.out.kp (Kp.of_below (below_step HB0.out C7.out))) (PA.out.kp (Kp.of_below D7.out)) (PB.out.kp (Kp.of_below D7.out)) (HI0.out.kp (Kp.of_below (below_step HB0.out C7.out))) (HI1.out.kp (Kp.of_below (below_step HB0.out C7.out))) (HT.out.below (below_step HB0.out C7.out)) HM0.out HM1.out HL0.out HL1.out).mono ?_
          rintro e w8 ⟨rfl, hb8⟩
          have C8 := hid (below_step C7.out hb8)
          have D8 := hid hb8
          clear hb8 x0 x1 x2 x3 x4 x5
          have hv2 : (termsB sig [movL d z0, movL d z1, z0, z1] && decide (canL [movL d z0, movL d z1] = canL [z0, z1])) = true := (varB_symm _ _ _ _ _).trans HV.out
          rw [hv2]
          clear hv2
          obtain ⟨x0, x1, x2, x3, x4, x5⟩ := HC.out w8 C8.out
          go_wp2_with fail
          refine (variant_any _ _ _ _ _ sig z0 z1 z2 z3 w8 (HS.out.kp (Kp.of_below (below_step HB0.out C8.out))) (HI0.out.kp (Kp.of_below (below_step HB0.out C8.out))) (HI1.out.kp (Kp.of_below (below_step HB0.out C8.out))) (HI2.out.kp (Kp.of_below (below_step HB0.out C8.out))) (HI3.out.kp (Kp.of_below (below_step HB0.out C8.out))) (HT.out.below (below_step HB0.out C8.out)) HL0.out HL1.out HL2.out HL3.out).mono ?_
          rintro e w9 ⟨rfl, hb9⟩
          have C9 := hid (below_step C8.out hb9)
          have D9 := hid hb9
          clear hb9 x0 x1 x2 x3 x4 x5
          obtain ⟨b0, hb0⟩ : ∃ b, b = varB sig z0 z1 z2 z3 := ⟨_, rfl⟩
          unfold varB at hb0
          rw [← hb0]
          have Q0 : Hid (b0 = varB sig z0 z1 z2 z3) := hb0
          clear hb0
          obtain ⟨x0, x1, x2, x3, x4, x5⟩ := HC.out w9 C9.out
          go_wp2_with fail
          refine (variant_any _ _ _ _ _ sig z2 z3 z0 z1 w9 (HS.out.kp (Kp.of_below (below_step HB0.out C9.out))) (HI2.out.kp (Kp.of_below (below_step HB0.out C9.out))) (HI3.out.kp (Kp.of_below (below_step HB0.out C9.out))) (HI0.out.kp (Kp.of_below (below_step HB0.out C9.out))) (HI1.out.kp (Kp.of_below (below_step HB0.out C9.out))) (HT.out.below (below_step HB0.out C9.out)) HL2.out HL3.out HL0.out HL1.out).mono ?_
          rintro e w10 ⟨rfl, hb10⟩
          have C10 := hid (below_step C9.out hb10)
          have D10 := hid hb10
          clear hb10 x0 x1 x2 x3 x4 x5
          obtain ⟨b1, hb1⟩ : ∃ b, b = varB sig z2 z3 z0 z1 := ⟨_, rfl⟩
          unfold varB at hb1
          rw [← hb1]
          have Q1 : Hid (b1 = varB sig z2 z3 z0 z1) := hb1
          clear hb1
          obtain ⟨x0, x1, x2, x3, x4, x5⟩ := HC.out w10 C10.out
          go_wp2_with fail
          refine (variant_any _ _ _ _ _ sig z2 z3 z4 z5 w10 (HS.out.kp (Kp.of_below (below_step HB0.out C10.out))) (HI2.out.kp (Kp.of_below (below_step HB0.out C10.out))) (HI3.out.kp (Kp.of_below (below_step HB0.out C10.out))) (HI4.out.kp (Kp.of_below (below_step HB0.out C10.out))) (HI5.out.kp (Kp.of_below (below_step HB0.out C10.out))) (HT.out.below (below_step HB0.out C10.out)) HL2.out HL3.out HL4.out HL5.out).mono ?_
          rintro e w11 ⟨rfl, hb11⟩
          have C11 := hid (below_step C10.out hb11)
          have D11 := hid hb11
          clear hb11 x0 x1 x2 x3 x4 x5
          obtain ⟨b2, hb2⟩ : ∃ b, b = varB sig z2 z3 z4 z5 := ⟨_, rfl⟩
          unfold varB at hb2
          rw [← hb2]
          have Q2 : Hid (b2 = varB sig z2 z3 z4 z5) := hb2
          clear hb2
          obtain ⟨x0, x1, x2, x3, x4, x5⟩ := HC.out w11 C11.out
          go_wp2_with fail
          refine (variant_any _ _ _ _ _ sig z0 z1 z4 z5 w11 (HS.out.kp (Kp.of_below (below_step HB0.out C11.out))) (HI0.out.kp (Kp.of_below (below_step HB0.out C11.out))) (HI1.out.kp (Kp.of_below (below_step HB0.out C11.out))) (HI4.out.kp (Kp.of_below (below_step HB0.out C11.out))) (HI5.out.kp (Kp.of_below (below_step HB0.out C11.out))) (HT.out.below (below_step HB0.out C11.out)) HL0.out HL1.out HL4.out HL5.out).mono ?_
          rintro e w12 ⟨rfl, hb12⟩
          have C12 := hid (below_step C11.out hb12)
          have D12 := hid hb12
          clear hb12 x0 x1 x2 x3 x4 x5
          obtain ⟨b3, hb3⟩ : ∃ b, b = varB sig z0 z1 z4 z5 := ⟨_, rfl⟩
          unfold varB at hb3
          rw [← hb3]
          have Q3 : Hid (b3 = varB sig z0 z1 z4 z5) := hb3
          clear hb3
          have e01 : b1 = b0 := by rw [Q0.out, Q1.out]; exact varB_symm _ _ _ _ _
          subst e01
          have h3 : b1 = true → b2 = true → b3 = true := fun k1 k2 => by rw [Q3.out]; exact varB_trans (Q0.out.symm.trans k1) (Q2.out.symm.trans k2)
          have H3 := hid h3
          clear h3 Q0 Q1 Q2 Q3
          have hbb : (b1 == b1) = true := by simp
          cases b1 with
          | false =>
            go_wp2
            go_ret
            exact ⟨rfl, below_step HB0.out C12.out⟩
          | true =>
            cases b2 with
            | false =>
              go_wp2
              go_ret
              exact ⟨rfl, below_step HB0.out C12.out⟩
            | true =>
              have h4 := H3.out rfl rfl
              subst h4
              go_wp2
              go_ret
              exact ⟨rfl, below_step HB0.out C12.out⟩
        · rw [(mov_ok k0).1, mov_no k1]
          clear k0 k1 OA OB2
          obtain ⟨x0, x1, x2, x3, x4, x5⟩ := HC.out w6 C6.out
          go_wp2_with fail
          refine (variant_any _ _ _ _ _ sig z0 z1 z2 z3 w6 (HS.out.kp (Kp.of_below (below_step HB0.out C6.out))) (HI0.out.kp (Kp.of_below (below_step HB0.out C6.out))) (HI1.out.kp (Kp.of_below (below_step HB0.out C6.out))) (HI2.out.kp (Kp.of_below (below_step HB0.out C6.out))) (HI3.out.kp (Kp.of_below (below_step HB0.out C6.out))) (HT.out.below (below_step HB0.out C6.out)) HL0.out HL1.out HL2.out HL3.out).mono ?_
          rintro e w7 ⟨rfl, hb7⟩
          have C7 := hid (below_step C6.out hb7)
          have D7 := hid hb7
          clear hb7 x0 x1 x2 x3 x4 x5
          obtain ⟨b0, hb0⟩ : ∃ b, b = varB sig z0 z1 z2 z3 := ⟨_, rfl⟩
          unfold varB at hb0
          rw [← hb0]
          have Q0 : Hid (b0 = varB sig z0 z1 z2 z3) := hb0
          clear hb0
          obtain ⟨x0, x1, x2, x3, x4, x5⟩ := HC.out w7 C7.out
          go_wp2_with fail
          refine (variant_any _ _ _ _ _ sig z2 z3 z0 z1 w7 (HS.out.kp (Kp.of_below (below_step HB0.out C7.out))) (HI2.out.kp (Kp.of_below (below_step HB0.out C7.out))) (HI3.out.kp (Kp.of_below (below_step HB0.out C7.out))) (HI0.out.kp (Kp.of_below (below_step HB0.out C7.out))) (HI1.out.kp (Kp.of_below (below_step HB0.out C7.out))) (HT.out.below (below_step HB0.out C7.out)) HL2.out HL3.out HL0.out HL1.out).mono ?_
          rintro e w8 ⟨rfl, hb8⟩
          have C8 := hid (below_step C7.out hb8)
          have D8 := hid hb8
          clear hb8 x0 x1 x2 x3 x4 x5
          obtain ⟨b1, hb1⟩ : ∃ b, b = varB sig z2 z3 z0 z1 := ⟨_, rfl⟩
          unfold varB at hb1
          rw [← hb1]
          have Q1 : Hid (b1 = varB sig z2 z3 z0 z1) := hb1
          clear hb1
          obtain ⟨x0, x1, x2, x3, x4, x5⟩ := HC.out w8 C8.out
          go_wp2_with fail
          refine (variant_any _ _ _ _ _ sig z2 z3 z4 z5 w8 (HS.out.kp (Kp.of_below (below_step HB0.out C8.out))) (HI2.out.kp (Kp.of_below (below_step HB0.out C8.out))) (HI3.out.kp (Kp.of_below (below_step HB0.out C8.out))) (HI4.out.kp (Kp.of_below (below_step HB0.out C8.out))) (HI5.out.kp (Kp.of_below (below_step HB0.out C8.out))) (HT.out.below (below_step HB0.out C8.out)) HL2.out HL3.out HL4.out HL5.out).mono ?_
          rintro e w9 ⟨rfl, hb9⟩
          have C9 := hid (below_step C8.out hb9)
          have D9 := hid hb9
          clear hb9 x0 x1 x2 x3 x4 x5
          obtain ⟨b2, hb2⟩ : ∃ b, b = varB sig z2 z3 z4 z5 := ⟨_, rfl⟩
          unfold varB at hb2
          rw [← hb2]
          have Q2 : Hid (b2 = varB sig z2 z3 z4 z5) := hb2
          clear hb2
          obtain ⟨x0, x1, x2, x3, x4, x5⟩ := HC.out w9 C9.out
          go_wp2_with fail
          refine (variant_any _ _ _ _ _ sig z0 z1 z4 z5 w9 (HS.out.kp (Kp.of_below (below_step HB0.out C9.out))) (HI0.out.kp (Kp.of_below (below_step HB0.out C9.out))) (HI1.out.kp (Kp.of_below (below_step HB0.out C9.out))) (HI4.out.kp (Kp.of_below (below_step HB0.out C9.out))) (HI5.out.kp (Kp.of_below (below_step HB0.out C9.out))) (HT.out.below (below_step HB0.out C9.out)) HL0.out HL1.out HL4.out HL5.out).mono ?_
          rintro e w10 ⟨rfl, hb10⟩
          have C10 := hid (below_step C9.out hb10)
          have D10 := hid hb10
          clear hb10 x0 x1 x2 x3 x4 x5
          obtain ⟨b3, hb3⟩ : ∃ b, b = varB sig z0 z1 z4 z5 := ⟨_, rfl⟩
          unfold varB at hb3
          rw [← hb3]
          have Q3 : Hid (b3 = varB sig z0 z1 z4 z5) := hb3
          clear hb3
          have e01 : b1 = b0 := by rw [Q0.out, Q1.out]; exact varB_symm _ _ _ _ _
          subst e01
          have h3 : b1 = true → b2 = true → b3 = true := fun k1 k2 => by rw [Q3.out]; exact varB_trans (Q0.out.symm.trans k1) (Q2.out.symm.trans k2)
          have H3 := hid h3
          clear h3 Q0 Q1 Q2 Q3
          have hbb : (b1 == b1) = true := by simp
          cases b1 with
          | false =>
            go_wp2
            go_ret
            exact ⟨rfl, below_step HB0.out C10.out⟩
          | true =>
            cases b2 with
            | false =>
              go_wp2
              go_ret
              exact ⟨rfl, below_step HB0.out C10.out⟩
            | true =>
              have h4 := H3.out rfl rfl
              subst h4
              go_wp2
              go_ret
              exact ⟨rfl, below_step HB0.out C10.out⟩
      · rw [mov_no k0]
        obtain ⟨E1, hE1⟩ : ∃ E, E = shiftE d z1 := ⟨_, rfl⟩
        rw [← hE1]
        clear hE1 k0 OA OB2
        obtain ⟨x0, x1, x2, x3, x4, x5⟩ := HC.out w6 C6.out
        go_wp2_with fail
        refine (variant_any _ _ _ _ _ sig z0 z1 z2 z3 w6 (HS.out.kp (Kp.of_below (below_step HB0.out C6.out))) (HI0.out.kp (Kp.of_below (below_step HB0.out C6.out))) (HI1.out.kp (Kp.of_below (below_step HB0.out C6.out))) (HI2.out.kp (Kp.of_below (below_step HB0.out C6.out))) (HI3.out.kp (Kp.of_below (below_step HB0.out C6.out))) (HT.out.below (below_step HB0.out C6.out)) HL0.out HL1.out HL2.out HL3.out).mono ?_
        rintro e w7 ⟨rfl, hb7⟩
        have C7 := hid (below_step C6.out hb7)
        have D7 := hid hb7
        clear hb7 x0 x1 x2 x3 x4 x5
        obtain ⟨b0, hb0⟩ : ∃ b, b = varB sig z0 z1 z2 z3 := ⟨_, rfl⟩
        unfold varB at hb0
        rw [← hb0]
        have Q0 : Hid (b0 = varB sig z0 z1 z2 z3) := hb0
        clear hb0
        obtain ⟨x0, x1, x2, x3, x4, x5⟩ := HC.out w7 C7.out
        go_wp2_with fail
        refine (variant_any _ _ _ _ _ sig z2 z3 z0 z1 w7 (HS.out.kp (Kp.of_below (below_step HB0.out C7.out))) (HI2.out.kp (Kp.of_below (below_step HB0.out C7.out))) (HI3.out.kp (Kp.of_below (below_step HB0.out C7.out))) (HI0.out.kp (Kp.of_below (below_step HB0.out C7.out))) (HI1.out.kp (Kp.of_below (below_step HB0.out C7.out))) (HT.out.below (below_step HB0.out C7.out)) HL2.out HL3.out HL0.out HL1.out).mono ?_
        rintro e w8 ⟨rfl, hb8⟩
        have C8 := hid (below_step C7.out hb8)
        have D8 := hid hb8
        clear hb8 x0 x1 x2 x3 x4 x5
        obtain ⟨b1, hb1⟩ : ∃ b, b = varB sig z2 z3 z0 z1 := ⟨_, rfl⟩
        unfold varB at hb1
        rw [← hb1]
        have Q1 : Hid (b1 = varB sig z2 z3 z0 z1) := hb1
        clear hb1
        obtain ⟨x0, x1, x2, x3, x4, x5⟩ := HC.out w8 C8.out
        go_wp2_with fail
        refine (variant_any _ _ _ _ _ sig z2 z3 z4 z5 w8 (HS.out.kp (Kp.of_below (below_step HB0.out C8.out))) (HI2.out.kp (Kp.of_below (below_step HB0.out C8.out))) (HI3.out.kp (Kp.of_below (below_step HB0.out C8.out))) (HI4.out.kp (Kp.of_below (below_step HB0.out C8.out))) (HI5.out.kp (Kp.of_below (below_step HB0.out C8.out))) (HT.out.below (below_step HB0.out C8.out)) HL2.out HL3.out HL4.out HL5.out).mono ?_
        rintro e w9 ⟨rfl, hb9⟩
        have C9 := hid (below_step C8.out hb9)
        have D9 := hid hb9
        clear hb9 x0 x1 x2 x3 x4 x5
        obtain ⟨b2, hb2⟩ : ∃ b, b = varB sig z2 z3 z4 z5 := ⟨_, rfl⟩
        unfold varB at hb2
        rw [← hb2]
        have Q2 : Hid (b2 = varB sig z2 z3 z4 z5) := hb2
        clear hb2
        obtain ⟨x0, x1, x2, x3, x4, x5⟩ := HC.out w9 C9.out
        go_wp2_with fail
        refine (variant_any _ _ _ _ _ sig z0 z1 z4 z5 w9 (HS.out.kp (Kp.of_below (below_step HB0.out C9.out))) (HI0.out.kp (Kp.of_below (below_step HB0.out C9.out))) (HI1.out.kp (Kp.of_below (below_step HB0.out C9.out))) (HI4.out.kp (Kp.of_below (below_step HB0.out C9.out))) (HI5.out.kp (Kp.of_below (below_step HB0.out C9.out))) (HT.out.below (below_step HB0.out C9.out)) HL0.out HL1.out HL4.out HL5.out).mono ?_
        rintro e w10 ⟨rfl, hb10⟩
        have C10 := hid (below_step C9.out hb10)
        have D10 := hid hb10
        clear hb10 x0 x1 x2 x3 x4 x5
        obtain ⟨b3, hb3⟩ : ∃ b, b = varB sig z0 z1 z4 z5 := ⟨_, rfl⟩
        unfold varB at hb3
        rw [← hb3]
        have Q3 : Hid (b3 = varB sig z0 z1 z4 z5) := hb3
        clear hb3
        have e01 : b1 = b0 := by rw [Q0.out, Q1.out]; exact varB_symm _ _ _ _ _
        subst e01
        have h3 : b1 = true → b2 = true → b3 = true := fun k1 k2 => by rw [Q3.out]; exact varB_trans (Q0.out.symm.trans k1) (Q2.out.symm.trans k2)
        have H3 := hid h3
        clear h3 Q0 Q1 Q2 Q3
        have hbb : (b1 == b1) = true := by simp
        cases b1 with
        | false =>
          go_wp2
          go_ret
          exact ⟨rfl, below_step HB0.out C10.out⟩
        | true =>
          cases b2 with
          | false =>
            go_wp2
            go_ret
            exact ⟨rfl, below_step HB0.out C10.out⟩
          | true =>
            have h4 := H3.out rfl rfl
            subst h4
            go_wp2
            go_ret
            exact ⟨rfl, below_step HB0.out C10.out⟩
    · rw [h0]
      have hne : (termE sig z1 != 0) = true := by simpa using h1
      clear h0 h1
      go_wp2
      go_ret
      exact ⟨rfl, below_step HB0.out C3.out⟩
  · have hne : (termE sig z0 != 0) = true := by simpa using h0
    clear h0
    go_wp2
    go_ret
    exact ⟨rfl, below_step HB0.out C3.out⟩

end Go.Proofs.YtjcgngfidnechabDoor
