/- Texts of the proof, one behind the other. -/
import Derived.Test.YtpnkplidhbbliaaDoorOwn5
import Derived.Test.YtpnkplidhbbliaaDoorOwn4
import Derived.Test.YtpnkplidhbbliaaDoorOwn6
import Derived.Test.YtpnkplidhbbliaaDoorOwn15
import Derived.Test.YtpnkplidhbbliaaDoorOwn7
import Derived.Test.YtpnkplidhbbliaaDoorOwn16
import Derived.BigRegion
/- What the document's Shift answers. -/
namespace Go.Proofs.YtpnkplidhbbliaaDoor
open Go.RowKit Go.Maps Go.BigFrame

set_option maxRecDepth 100000 in
set_option maxHeartbeats 1600000 in
theorem refShift_any (v : Value) (t : List Int) (d : Int) (w : World) (h : Is w v t) (hb : t.length * 8 ≤ 140737488351232) (hd1 : -9223372036854775808 ≤ d) (hd2 : d ≤ 9223372036854775807) :
    Calls Tryd.prog 20 #[v, .int .i64 d] w fun e w' => ∃ v', e = .returned (.tuple #[v', .int .i64 (shiftE d t)]) ∧ OwI w' w.heap.size v' (shiftL d t) ∧ Below w.heap.size w w' := by
  obtain ⟨ao, cap, rfl, hao, hca, q0⟩ := Row.flat h
  unfold maxLen at hca
  have HT := hid h
  clear h q0
  go_enter Tryd.func20, Tryd.ntmps20
  go_wp2
  go_loopw [6, 7] (fun x i wr => ∃ k : Nat, k ≤ t.length ∧ i = .int .i64 k ∧ (∀ c ∈ t.take k, c < 0 → isVarB (-1 - c + d) = true) ∧ OwI wr w.heap.size x ((t.take k).map fun c => if c < 0 then c - d else c) ∧ Below w.heap.size w wr) (fun _ i _ => t.length - (intOf i).toNat)
  case atStart => exact ⟨0, Nat.zero_le _, rfl, fun c hc => (by simp at hc), ⟨fun k x hk => (by simp at hk), empty_row _ (Nat.le_refl _)⟩, below_alloc _⟩
  case round =>
    obtain ⟨k, hk, rfl, hpre, how, hbl⟩ := hrel
    have hol : ((t.take k).map fun c => if c < 0 then c - d else c).length = k := by rw [List.length_map, List.length_take]; omega
    obtain ⟨bo, bc, hv, hbc1, hbc2⟩ := how.shape
    rw [hol] at hv hbc1
    subst hv
    unfold maxLen at hbc2
    have HPre := hid hpre
    have HOw := hid how
    have HB := hid hbl
    have HOl := hid hol
    clear hpre how hol
    by_cases hlt : k < t.length
    · obtain ⟨ga, off, c, rfl, hx1, hx2, hx3, hx4⟩ := (HT.out.kp (Kp.of_below hbl)).at hlt
      have HG := hid hx1
      have HMem : Hid (c ∈ t) := List.mem_of_getElem? hx1
      have HPre2' : (c < 0 → isVarB (-1 - c + d) = true) → ∀ x ∈ t.take (k + 1), x < 0 → isVarB (-1 - x + d) = true := fun hcv x hx h0 => by
        rw [List.take_add_one, HG.out, List.mem_append] at hx
        rcases hx with hx | hx
        · exact HPre.out x hx h0
        · simp at hx
          subst hx
          exact hcv h0
      have HPq := hid HPre2'
      clear hx1 hbl HPre2'
      obtain ⟨n, hn⟩ : ∃ n, n = -1 - c := ⟨_, rfl⟩
      have hwn : IntKind.i64.wrap (-1 - c) = n := by rw [hn]; exact IntWalk.i64_in _ ⟨by omega, by omega⟩
      by_cases hc0 : 0 ≤ c
      · have HPre2 := hid (HPq.out (fun h => absurd h (by omega)))
        have hcn : ¬ c < 0 := by omega
        obtain ⟨v4, w4, hr4, ho4, hg4⟩ := join_ints 23 (u := .slice (some ⟨wr.heap.size, 0, none⟩) 1 1) (es := [c]) (HOw.out.later (below_alloc (.cells #[.int .i64 (c)] 3))) (is_new wr [c] _ (by intro x hx; simp at hx; omega) (by simp)) (b1 HB.out).size (by rw [HOl.out]; simp; omega)
        have HR4 := hid hr4
        have HO4 : Hid (OwI w4 w.heap.size v4 ((t.take (k + 1)).map fun c => if c < 0 then c - d else c)) := by
          have h9 := ho4
          rw [List.take_add_one, HG.out, List.map_append]
          simp only [Option.toList, List.map_cons, List.map_nil, if_neg hcn]
          exact h9
        have HB4 : Hid (Below w.heap.size w w4) := (b1 HB.out).grown hg4 (b1 HB.out).size (fun j hj => own_blk HOw.out.2 hj)
        clear hr4 ho4 hg4
        go_wp2_with (first
          | (at_builtin; refine wpList_append_run rfl _ _ _ rfl _ _ rfl rfl HR4.out ?_))
        go_roundw
        case rel => exact ⟨k + 1, by omega, by go_num, HPre2.out, HO4.out, HB4.out⟩
        case measure => simp [intOf]; omega
      · have hcn : c < 0 := by omega
        by_cases hv : isVarB (-1 - c + d) = true
        · have HPre2 := hid (HPq.out (fun _ => hv))
          have hv2 := isVarB_iff.1 hv
          obtain ⟨m, hm⟩ : ∃ m, m = n + d := ⟨_, rfl⟩
          obtain ⟨y, hy⟩ : ∃ y, y = c - d := ⟨_, rfl⟩
          have hwm : IntKind.i64.wrap (n + d) = m := by rw [hm]; exact IntWalk.i64_in _ ⟨by omega, by omega⟩
          have hwy : IntKind.i64.wrap (-1 - m) = y := by rw [IntWalk.i64_in _ ⟨by omega, by omega⟩]; omega
          have hdm : ¬ 1048576 ≤ d := by omega
          have hm0 : ¬ m < 0 := by omega
          have hm1 : ¬ 1048576 ≤ m := by omega
          by_cases hd0 : 0 ≤ d
          · have hwd : IntKind.i64.wrap (1048576 - d) = 1048576 - d := IntWalk.i64_in _ ⟨by omega, by omega⟩
            have hnd : ¬ 1048576 - d ≤ n := by omega
            obtain ⟨v4, w4, hr4, ho4, hg4⟩ := join_ints 23 (u := .slice (some ⟨wr.heap.size, 0, none⟩) 1 1) (es := [y]) (HOw.out.later (below_alloc (.cells #[.int .i64 (y)] 3))) (is_new wr [y] _ (by intro x hx; simp at hx; omega) (by simp)) (b1 HB.out).size (by rw [HOl.out]; simp; omega)
            have HR4 := hid hr4
            have HO4 : Hid (OwI w4 w.heap.size v4 ((t.take (k + 1)).map fun c => if c < 0 then c - d else c)) := by
              have h9 := ho4
              rw [List.take_add_one, HG.out, List.map_append]
              simp only [Option.toList, List.map_cons, List.map_nil, if_pos hcn, ← hy]
              exact h9
            have HB4 : Hid (Below w.heap.size w w4) := (b1 HB.out).grown hg4 (b1 HB.out).size (fun j hj => own_blk HOw.out.2 hj)
            clear hr4 ho4 hg4 hn hm hy hv hv2
            go_wp2_with (first
              | (at_builtin; refine wpList_append_run rfl _ _ _ rfl _ _ rfl rfl HR4.out ?_))
            go_roundw
            case rel => exact ⟨k + 1, by omega, by go_num, HPre2.out, HO4.out, HB4.out⟩
            case measure => simp [intOf]; omega
          · have hnd : ¬ 0 ≤ d := hd0
            obtain ⟨v4, w4, hr4, ho4, hg4⟩ := join_ints 23 (u := .slice (some ⟨wr.heap.size, 0, none⟩) 1 1) (es := [y]) (HOw.out.later (below_alloc (.cells #[.int .i64 (y)] 3))) (is_new wr [y] _ (by intro x hx; simp at hx; omega) (by simp)) (b1 HB.out).size (by rw [HOl.out]; simp; omega)
            have HR4 := hid hr4
            have HO4 : Hid (OwI w4 w.heap.size v4 ((t.take (k + 1)).map fun c => if c < 0 then c - d else c)) := by
              have h9 := ho4
              rw [List.take_add_one, HG.out, List.map_append]
              simp only [Option.toList, List.map_cons, List.map_nil, if_pos hcn, ← hy]
              exact h9
            have HB4 : Hid (Below w.heap.size w w4) := (b1 HB.out).grown hg4 (b1 HB.out).size (fun j hj => own_blk HOw.out.2 hj)
            clear hr4 ho4 hg4 hn hm hy hv hv2
            go_wp2_with (first
              | (at_builtin; refine wpList_append_run rfl _ _ _ rfl _ _ rfl rfl HR4.out ?_))
            go_roundw
            case rel => exact ⟨k + 1, by omega, by go_num, HPre2.out, HO4.out, HB4.out⟩
            case measure => simp [intOf]; omega
        · have HE : Hid (shiftE d t = 40 ∧ shiftL d t = []) := by
            have hno : ¬ okShift d t = true := fun h => hv (by
              have := List.all_eq_true.1 h c HMem.out
              simpa [hcn] using this)
            exact ⟨by unfold shiftE; rw [if_neg hno], by unfold shiftL; rw [if_neg hno]⟩
          have hv2 : ¬ (0 ≤ -1 - c + d ∧ -1 - c + d < 1048576) := fun h => hv (isVarB_iff.2 h)
          obtain ⟨m, hm⟩ : ∃ m, m = n + d := ⟨_, rfl⟩
          by_cases hd9 : 1048576 ≤ d
          · go_wp2
            go_ret2
            exact ⟨_, ret2i HE.out.1.symm, by rw [HE.out.2]; exact nilI _ _, HB.out⟩
          · by_cases hd0 : 0 ≤ d
            · have hwd : IntKind.i64.wrap (1048576 - d) = 1048576 - d := IntWalk.i64_in _ ⟨by omega, by omega⟩
              have hnd : 1048576 - d ≤ n := by omega
              go_wp2
              go_ret2
              exact ⟨_, ret2i HE.out.1.symm, by rw [HE.out.2]; exact nilI _ _, HB.out⟩
            · have hwm : IntKind.i64.wrap (n + d) = m := by rw [hm]; exact IntWalk.i64_in _ ⟨by omega, by omega⟩
              by_cases hm0 : m < 0
              · go_wp2
                go_ret2
                exact ⟨_, ret2i HE.out.1.symm, by rw [HE.out.2]; exact nilI _ _, HB.out⟩
              · have hm1 : 1048576 ≤ m := by omega
                go_wp2
                go_ret2
                exact ⟨_, ret2i HE.out.1.symm, by rw [HE.out.2]; exact nilI _ _, HB.out⟩
    · have hke : k = t.length := by omega
      subst hke
      have HE : Hid (shiftE d t = 0 ∧ shiftL d t = t.map fun c => if c < 0 then c - d else c) := by
        have h9 := HPre.out
        rw [List.take_length] at h9
        have hok : okShift d t = true := List.all_eq_true.2 fun c hc => by
          by_cases h0 : c < 0
          · simp [h9 c hc h0]
          · simp [h0]
        exact ⟨by unfold shiftE; rw [if_pos hok], by unfold shiftL; rw [if_pos hok]⟩
      rw [List.take_length] at HOw
      go_wp2
      go_ret2
      exact ⟨_, ret2i HE.out.1.symm, by rw [HE.out.2]; exact HOw.out, HB.out⟩

end Go.Proofs.YtpnkplidhbbliaaDoor


/- Shift, and back. -/
namespace Go.Proofs.YtpnkplidhbbliaaDoor
open Go.RowKit Go.Maps

theorem isVarB_iff2 {n : Int} : isVarB n = true ↔ 0 ≤ n ∧ n < 1048576 := isVarB_iff

theorem shift_cell {d c : Int} (h : c < 0 → isVarB (-1 - c + d) = true) : (if c < 0 then c - d else c) < 0 ↔ c < 0 := by
  by_cases hc : c < 0
  · have := isVarB_iff2.1 (h hc)
    rw [if_pos hc]
    omega
  · rw [if_neg hc]

theorem okShift_cons (d c : Int) (t : List Int) : okShift d (c :: t) = true ↔ (c < 0 → isVarB (-1 - c + d) = true) ∧ okShift d t = true := by
  unfold okShift
  rw [List.all_cons, Bool.and_eq_true]
  refine and_congr_left fun _ => ?_
  by_cases hc : c < 0
  · simp [hc]
  · simp [hc]

/-- What was shifted is shifted back just if all numbers were those of variables. -/
theorem shift_back (d : Int) : ∀ t : List Int, okShift d t = true → (okShift (-d) (t.map fun c => if c < 0 then c - d else c) = true ↔ ∀ c ∈ t, -1048576 ≤ c) ∧ ((t.map fun c => if c < 0 then c - d else c).map fun c => if c < 0 then c - -d else c) = t
  | [], _ => ⟨⟨fun _ c hc => (by cases hc), fun _ => rfl⟩, rfl⟩
  | c :: t, h => by
    obtain ⟨h1, h2⟩ := (okShift_cons d c t).1 h
    obtain ⟨h3, h4⟩ := shift_back d t h2
    have hs := shift_cell h1
    refine ⟨?_, ?_⟩
    · rw [List.map_cons, okShift_cons, h3, hs]
      refine ⟨fun ⟨k1, k2⟩ x hx => ?_, fun k => ⟨fun hc => ?_, fun x hx => k x (.tail _ hx)⟩⟩
      · cases hx with
        | head =>
          by_cases hc : c < 0
          · have := k1 hc
            rw [if_pos hc, isVarB_iff2] at this
            omega
          · omega
        | tail _ hx => exact k2 x hx
      · have := k c (.head _)
        rw [if_pos hc, isVarB_iff2]
        omega
    · rw [List.map_cons, List.map_cons, h4]
      congr 1
      by_cases hc : c < 0
      · rw [if_pos (hs.2 hc), if_pos hc]
        omega
      · rw [if_neg (fun h => hc (hs.1 h)), if_neg hc]

end Go.Proofs.YtpnkplidhbbliaaDoor

/- Rows whose variables are moved, plainly. -/
namespace Go.Proofs.YtpnkplidhbbliaaDoor
open Go.RowKit Go.Maps Go.BigFrame

def movL (d : Int) (t : List Int) : List Int := t.map fun c => if c < 0 then c - d else c

theorem mov_ok {d : Int} {t : List Int} (h : okShift d t = true) : shiftE d t = 0 ∧ shiftL d t = movL d t := by
  unfold shiftE shiftL
  rw [if_pos h, if_pos h]
  exact ⟨rfl, rfl⟩

theorem mov_no {d : Int} {t : List Int} (h : ¬ okShift d t = true) : shiftE d t = 40 := by
  unfold shiftE
  rw [if_neg h]

theorem mov_code {sig : List Sy} {d c : Int} (h : c < 0 → isVarB (-1 - c + d) = true) (hc : codeD sig c ≠ none) : codeD sig (if c < 0 then c - d else c) = codeD sig c := by
  by_cases h0 : c < 0
  · rw [if_pos h0]
    have h1 := isVarB_iff.1 (h h0)
    have h2 : ¬ c < -1048576 := fun h2 => hc (codeD_none (.inr h2))
    unfold codeD
    rw [if_neg (by omega), if_pos (by omega), if_neg (by omega), if_pos (by omega)]
  · rw [if_neg h0]

theorem mov_first {sig : List Sy} {d : Int} : ∀ (t : List Int) (m : Int) (i : Nat), okShift d t = true → (∀ c ∈ t, codeD sig c ≠ none) → firstT sig m i (movL d t) = firstT sig m i t
  | [], _, _, _, _ => rfl
  | c :: t, m, i, ho, hc => by
    have h1 : (c < 0 → isVarB (-1 - c + d) = true) ∧ okShift d t = true := by
      unfold okShift at ho ⊢
      rw [List.all_cons, Bool.and_eq_true] at ho
      refine ⟨fun h0 => ?_, ho.2⟩
      have := ho.1
      simpa [h0] using this
    have e : movL d (c :: t) = (if c < 0 then c - d else c) :: movL d t := rfl
    rw [e]
    unfold firstT
    rw [mov_code h1.1 (hc c (by simp))]
    cases codeD sig c with
    | none => rfl
    | some x =>
      simp only
      rw [mov_first t _ _ h1.2 (fun y hy => hc y (by simp [hy]))]

theorem first_codes {sig : List Sy} : ∀ (t : List Int) (m : Int) (i : Nat), firstT sig m i t = ((i : Int) + t.length, 0) → ∀ c ∈ t, codeD sig c ≠ none
  | [], _, _, _, c, hc => by simp at hc
  | a :: t, m, i, h, c, hc => by
    unfold firstT at h
    cases ha : codeD sig a with
    | none => rw [ha] at h; simp at h
    | some x =>
      rw [ha] at h
      simp only at h
      by_cases h0 : m + x = 0
      · rw [if_pos h0] at h
        have h2 := congrArg Prod.fst h
        simp only [List.length_cons] at h2
        have h3 : t.length = 0 := by omega
        obtain rfl := List.eq_nil_of_length_eq_zero h3
        rw [List.mem_singleton] at hc
        subst hc
        rw [ha]
        simp
      · rw [if_neg h0] at h
        rcases List.mem_cons.1 hc with rfl | hc
        · rw [ha]; simp
        · refine first_codes t (m + x) (i + 1) ?_ c hc
          rw [h]
          simp only [List.length_cons]
          congr 1
          push_cast
          omega

theorem mov_row {sig : List Sy} {d : Int} {t : List Int} (ho : okShift d t = true) (h : rowE sig t = 0) : rowE sig (movL d t) = 0 := by
  have h1 := first_right h []
  rw [List.append_nil] at h1
  have h2 := mov_first (sig := sig) t 1 0 ho (first_codes t 1 0 (by rw [h1]; simp))
  unfold rowE at h ⊢
  rw [h2]
  have h3 : (movL d t).length = t.length := by unfold movL; simp
  rw [h3]
  exact h

theorem mov_term {sig : List Sy} {d : Int} {t : List Int} (ho : okShift d t = true) (h : termE sig t = 0) : termE sig (movL d t) = 0 := by
  unfold termE at h ⊢
  by_cases hs : sigE sig = 0
  · rw [if_pos hs] at h ⊢
    exact mov_row ho h
  · rw [if_neg hs] at h
    exact absurd h hs

theorem mov_can {d : Int} {p q : List Int} (h1 : okShift d p = true) (h2 : okShift d q = true) : canL [movL d p, movL d q] = canL [p, q] := by
  refine canL_shift d [p, q] fun t ht c hc h0 => ?_
  have ho : okShift d t = true := by
    simp only [List.mem_cons, List.not_mem_nil, or_false] at ht
    rcases ht with rfl | rfl
    · exact h1
    · exact h2
  have h3 := List.all_eq_true.1 ho c hc
  have h4 : isVarB (-1 - c + d) = true := by simpa [h0] using h3
  exact (isVarB_iff.1 h4).1

end Go.Proofs.YtpnkplidhbbliaaDoor

/- What the binds of Unify do: plain. -/
namespace Go.Proofs.YtpnkplidhbbliaaDoor
open Go.RowKit Go.Maps

theorem ysV_rise (a b : List Int) : (ysV a b).Pairwise (· < ·) := by
  unfold ysV keyS
  exact sortI_rise (keyL_nodup _)

theorem riseL_mem {g : Int → Option (List Int)} {ys : List Int} {b : Bd} : b ∈ riseL g ys ↔ b.1 ∈ ys ∧ keptB g b.1 = false ∧ b.2 = piece g (-1 - b.1) := by
  unfold riseL
  rw [List.mem_map]
  constructor
  · rintro ⟨n, hn, rfl⟩
    rw [List.mem_filter] at hn
    exact ⟨hn.1, by simpa using hn.2, rfl⟩
  · rintro ⟨h1, h2, h3⟩
    exact ⟨b.1, List.mem_filter.2 ⟨h1, by simp [h2]⟩, by rw [← h3]⟩

theorem rise_bnd (g : Int → Option (List Int)) (ys : List Int) (n : Int) : bnd (riseL g ys) n = if n ∈ ys ∧ keptB g n = false then some (piece g (-1 - n)) else none := by
  unfold bnd
  cases hl : (riseL g ys).reverse.lookup n with
  | some u =>
    have hm := lookup_mem hl
    rw [List.mem_reverse] at hm
    obtain ⟨h1, h2, h3⟩ := riseL_mem.1 hm
    simp only at h1 h2 h3
    rw [if_pos ⟨h1, h2⟩, h3]
  | none =>
    rw [if_neg]
    rintro ⟨h1, h2⟩
    have hm : (n, piece g (-1 - n)) ∈ (riseL g ys).reverse := List.mem_reverse.2 (riseL_mem.2 ⟨h1, h2, rfl⟩)
    have := (List.lookup_eq_none_iff.1 hl) _ hm
    simp at this

theorem rise_piece_in {g : Int → Option (List Int)} {ys : List Int} {c : Int} (hc : c < 0) (hm : -1 - c ∈ ys) : piece (bnd (riseL g ys)) c = piece g c := by
  have e : piece (bnd (riseL g ys)) c = (bnd (riseL g ys) (-1 - c)).getD [c] := by unfold piece; rw [if_pos hc]
  rw [e, rise_bnd]
  by_cases hk : keptB g (-1 - c) = false
  · rw [if_pos ⟨hm, hk⟩, Option.getD_some, show -1 - (-1 - c) = c by omega]
  · rw [if_neg (fun h => hk h.2), Option.getD_none]
    have hk2 : keptB g (-1 - c) = true := by simpa using hk
    unfold keptB at hk2
    have hk3 := of_decide_eq_true hk2
    rw [show -1 - (-1 - c) = c by omega] at hk3
    exact hk3.symm

theorem rise_piece_fix {g : Int → Option (List Int)} {ys : List Int} {c : Int} (h : piece g c = [c]) : piece (bnd (riseL g ys)) c = [c] := by
  by_cases hc : c < 0
  · by_cases hm : -1 - c ∈ ys
    · rw [rise_piece_in hc hm, h]
    · unfold piece
      rw [if_pos hc, rise_bnd, if_neg (fun h => hm h.1)]
      rfl
  · unfold piece
    rw [if_neg hc]

theorem rise_laid {g : Int → Option (List Int)} {ys t : List Int} (h : ∀ c ∈ t, c < 0 → -1 - c ∈ ys) : laidL (bnd (riseL g ys)) t = laidL g t := laid_congr6 (fun c hc h0 => rise_piece_in h0 (h c hc h0))

theorem mg_fix {sig : List Sy} {a b : List Int} {g : Int → Option (List Int)} (h : Mg sig a b g) (c : Int) : ∀ d ∈ piece g c, piece g d = [d] := laid_fix (piece_ne h.right) _ (by
  have := h.gen g h.right h.one [c]
  rw [laid_one6] at this
  exact this)

theorem mg_fix_laid {sig : List Sy} {a b : List Int} {g : Int → Option (List Int)} (h : Mg sig a b g) (t : List Int) : ∀ d ∈ laidL g t, piece g d = [d] := fun d hd => by
  unfold laidL at hd
  rw [List.mem_flatMap] at hd
  obtain ⟨c, _, hc⟩ := hd
  exact mg_fix h c d hc

theorem row_code {sig : List Sy} {t : List Int} (h : rowE sig t = 0) : ∀ c ∈ t, codeD sig c ≠ none := first_codes t 1 0 (by rw [row_first.1 h]; simp)

theorem code_var {sig : List Sy} {c : Int} (h : codeD sig c ≠ none) (hc : c < 0) : isVarB (-1 - c) = true ∧ rowE sig [c] = 0 := by
  have h1 : ¬ c < -1048576 := fun h9 => h (codeD_none (.inr h9))
  refine ⟨isVarB_iff.2 ⟨by omega, by omega⟩, ?_⟩
  unfold rowE firstT
  rw [codeD_var (by omega) hc]
  simp

theorem ys_left {a b : List Int} : ∀ c ∈ a, c < 0 → -1 - c ∈ ysV a b := fun c hc h0 => (ysV_mem a b _).2 ⟨by omega, .inl (by rw [show -1 - (-1 - c) = c by omega]; exact hc)⟩

theorem ys_right {a b : List Int} : ∀ c ∈ b, c < 0 → -1 - c ∈ ysV a b := fun c hc h0 => (ysV_mem a b _).2 ⟨by omega, .inr (by rw [show -1 - (-1 - c) = c by omega]; exact hc)⟩

theorem ys_code {sig : List Sy} {a b : List Int} (h : twoE sig a b = 0) {n : Int} (hn : n ∈ ysV a b) : 0 ≤ n ∧ codeD sig (-1 - n) ≠ none := by
  obtain ⟨_, ha, hb⟩ := two_right h
  obtain ⟨h0, hm⟩ := (ysV_mem a b n).1 hn
  exact ⟨h0, hm.elim (row_code ha _) (row_code hb _)⟩

theorem rise_binds {sig : List Sy} {a b : List Int} {g : Int → Option (List Int)} (h : twoE sig a b = 0) (hg : Mg sig a b g) : bindE sig (riseL g (ysV a b)) = 0 := by
  obtain ⟨hs, _, _⟩ := two_right h
  unfold bindE
  rw [if_pos hs]
  refine bind_made sig _ none (fun x hx => ?_) (fun y hy => by cases hy) ?_
  · obtain ⟨h1, h2, h3⟩ := riseL_mem.1 hx
    obtain ⟨h0, hc⟩ := ys_code h h1
    obtain ⟨k1, k2⟩ := code_var hc (by omega)
    rw [show -1 - (-1 - x.1) = x.1 by omega] at k1
    refine ⟨k1, ?_⟩
    unfold termE
    rw [if_pos hs, h3]
    exact piece_right hg.right k2
  · unfold riseL
    rw [List.pairwise_map]
    exact (ysV_rise a b).filter _

/-- What Unify's binds are, where it answers some. -/
theorem uni_parts {sig : List Sy} {a b : List Int} (hM : twoE sig a b = 0 → Unif sig a b → ∃ g, Mg sig a b g) (h : uniE sig a b = 0) : twoE sig a b = 0 ∧ ∃ g, Mg sig a b g ∧ uniL sig a b = riseL g (ysV a b) := by
  by_cases h2 : twoE sig a b = 0
  · by_cases hu : Unif sig a b
    · obtain ⟨g, hg⟩ := hM h2 hu
      exact ⟨h2, g, hg, (uniE_yes h2 hg).2.1 h⟩
    · rw [(uniE_no h2 hu).1] at h
      cases h
  · rw [(uniE_two h2).1] at h
    exact absurd h h2

theorem uni_none {sig : List Sy} {a b : List Int} (h : uniE sig a b ≠ 0) : uniL sig a b = [] := by
  unfold uniL
  rw [if_neg h]

theorem termE_of {sig : List Sy} {t : List Int} (h1 : sigE sig = 0) (h2 : rowE sig t = 0) : termE sig t = 0 := by
  unfold termE
  rw [if_pos h1, h2]

/-- One term, resolved. -/
theorem uni_one {sig : List Sy} {a b : List Int} (hM : twoE sig a b = 0 → Unif sig a b → ∃ g, Mg sig a b g) (h : uniE sig a b = 0) :
    (∀ x ∈ uniL sig a b, ∀ n ∈ varsL x.2, ∀ y ∈ uniL sig a b, y.1 ≠ n) ∧ applyE sig (uniL sig a b) a = applyE sig (uniL sig a b) b ∧ applyL sig (uniL sig a b) a = applyL sig (uniL sig a b) b ∧ (applyE sig (uniL sig a b) b = 0 ∨ applyE sig (uniL sig a b) b = 2) ∧
      (applyE sig (uniL sig a b) a = 0 → applyE sig (uniL sig a b) (applyL sig (uniL sig a b) a) = 0 ∧ applyL sig (uniL sig a b) (applyL sig (uniL sig a b) a) = applyL sig (uniL sig a b) a) := by
  obtain ⟨h2, g, hg, e⟩ := uni_parts hM h
  obtain ⟨hs, ha, hb⟩ := two_right h2
  have hB := rise_binds h2 hg
  have la : laidL (bnd (riseL g (ysV a b))) a = laidL g a := rise_laid ys_left
  have lb : laidL (bnd (riseL g (ysV a b))) b = laidL g b := rise_laid ys_right
  obtain ⟨pa, qa⟩ := apply_of hB (termE_of hs ha)
  obtain ⟨pb, qb⟩ := apply_of hB (termE_of hs hb)
  rw [e]
  refine ⟨fun x hx n hn y hy he => ?_, ?_, ?_, ?_, fun h0 => ?_⟩
  · obtain ⟨_, _, h3⟩ := riseL_mem.1 hx
    obtain ⟨_, k2, _⟩ := riseL_mem.1 hy
    obtain ⟨c, hc, hc0, rfl⟩ := mem_varsL.1 hn
    rw [h3] at hc
    have h9 := mg_fix hg _ c hc
    rw [he] at k2
    unfold keptB at k2
    rw [show -1 - (-1 - c) = c by omega] at k2
    exact of_decide_eq_false k2 h9
  · rw [pa, pb, la, lb, hg.one]
  · rw [qa, qb, la, lb, hg.one]
  · rw [pb]
    split
    · exact .inr rfl
    · exact .inl rfl
  · obtain ⟨_, _, hl, e2⟩ := apply_ok h0
    have hk : laidL (bnd (riseL g (ysV a b))) (laidL g a) = laidL g a := laid_keep _ (fun d hd => rise_piece_fix (mg_fix_laid hg a d hd))
    have ht := term_laid hB (termE_of hs ha)
    rw [la] at e2 hl ht
    rw [e2]
    obtain ⟨px, qx⟩ := apply_of hB ht
    rw [px, qx, hk, if_neg (by omega), if_neg (by omega)]
    exact ⟨rfl, rfl⟩

theorem piece_le6 {f : Int → Option (List Int)} {t : List Int} {c : Int} (h : c ∈ t) : (piece f c).length ≤ (laidL f t).length := by
  obtain ⟨p, q, rfl⟩ := List.append_of_mem h
  rw [laidL_app, laid_cons6, List.length_append, List.length_append]
  omega

/-- What other binds say of two terms that they make one. -/
theorem uni_met {sig : List Sy} {a b : List Int} {r : List Bd} (h1 : applyE sig r a = 0) (h2 : applyE sig r b = 0) (h3 : applyL sig r a = applyL sig r b) : twoE sig a b = 0 ∧ Unif sig a b := by
  obtain ⟨hb, ta, _, ea⟩ := apply_ok h1
  obtain ⟨_, tb, _, eb⟩ := apply_ok h2
  refine ⟨by unfold twoE; rw [if_pos ta, tb], bnd r, bnd_right hb, by rw [← ea, ← eb, h3]⟩

theorem uni_met_err {sig : List Sy} {a b : List Int} (hM : twoE sig a b = 0 → Unif sig a b → ∃ g, Mg sig a b g) (h : twoE sig a b = 0) (hu : Unif sig a b) : uniE sig a b = 0 ∨ uniE sig a b = 2 := by
  obtain ⟨g, hg⟩ := hM h hu
  rw [(uniE_yes h hg).1]
  unfold riseE
  split
  · exact .inr rfl
  · exact .inl rfl

/-- Most general. -/
theorem uni_gen {sig : List Sy} {a b : List Int} {r : List Bd} (hM : twoE sig a b = 0 → Unif sig a b → ∃ g, Mg sig a b g) (h1 : applyE sig r a = 0) (h2 : applyE sig r b = 0) (h3 : applyL sig r a = applyL sig r b) (h : uniE sig a b = 0) :
    ∀ x ∈ uniL sig a b, applyE sig r [-1 - x.1] = 0 ∧ (applyE sig r x.2 = 0 → applyL sig r x.2 = applyL sig r [-1 - x.1]) ∧ (applyE sig r x.2 = 0 ∨ applyE sig r x.2 = 2) := by
  obtain ⟨h4, g, hg, e⟩ := uni_parts hM h
  obtain ⟨hs, ra, rb⟩ := two_right h4
  obtain ⟨hb, ta, la, ea⟩ := apply_ok h1
  obtain ⟨_, tb, lb, eb⟩ := apply_ok h2
  intro x hx
  rw [e] at hx
  obtain ⟨k1, k2, k3⟩ := riseL_mem.1 hx
  obtain ⟨k0, kc⟩ := ys_code h4 k1
  obtain ⟨kv, kr⟩ := code_var kc (by omega)
  obtain ⟨_, hm⟩ := (ysV_mem a b x.1).1 k1
  have hle : (piece (bnd r) (-1 - x.1)).length ≤ 512 := by
    rcases hm with hm | hm
    · exact Nat.le_trans (piece_le6 hm) la
    · exact Nat.le_trans (piece_le6 hm) lb
  obtain ⟨p1, q1⟩ := apply_of hb (termE_of hs kr)
  rw [laid_one6, if_neg (by omega)] at p1 q1
  obtain ⟨p2, q2⟩ := apply_of hb (termE_of hs (k3 ▸ piece_right hg.right kr : rowE sig x.2 = 0))
  refine ⟨p1, fun h9 => ?_, ?_⟩
  · obtain ⟨_, _, _, e9⟩ := apply_ok h9
    have h8 := hg.gen (bnd r) (bnd_right hb) (by rw [← ea, ← eb, h3]) [-1 - x.1]
    rw [laid_one6, laid_one6] at h8
    rw [e9, q1, k3, h8]
  · rw [p2]
    split
    · exact .inr rfl
    · exact .inl rfl

/-- What makes a term the moved instance. -/
def moveF (s : List Bd) (t : List Int) (n : Int) : Option (List Int) := if 0 ≤ n ∧ -1 - n ∈ t then some (movL 1000 (piece (bnd s) (-1 - n))) else none

theorem mov_flat6 (d : Int) (f : Int → List Int) (t : List Int) : movL d (t.flatMap f) = t.flatMap fun c => movL d (f c) := by
  unfold movL
  rw [List.map_flatMap]

theorem moveF_laid (s : List Bd) (t : List Int) : laidL (moveF s t) t = movL 1000 (laidL (bnd s) t) := by
  unfold laidL
  rw [mov_flat6]
  have key : ∀ u : List Int, (∀ c ∈ u, c ∈ t) → u.flatMap (piece (moveF s t)) = u.flatMap fun c => movL 1000 (piece (bnd s) c) := by
    intro u
    induction u with
    | nil => intro _; rfl
    | cons c u ih =>
      intro hu
      rw [List.flatMap_cons, List.flatMap_cons, ih (fun x hx => hu x (List.mem_cons_of_mem _ hx))]
      congr 1
      have hm := hu c (List.mem_cons_self ..)
      by_cases hc : c < 0
      · have e : piece (moveF s t) c = (moveF s t (-1 - c)).getD [c] := by unfold piece; rw [if_pos hc]
        rw [e]
        unfold moveF
        rw [show -1 - (-1 - c) = c by omega, if_pos ⟨by omega, hm⟩, Option.getD_some]
      · unfold piece movL
        rw [if_neg hc]
        simp [hc]
  exact key t (fun _ h => h)

theorem moveF_keep (s : List Bd) {t x : List Int} (ho : okShift 1000 x = true) (hv : ∀ n ∈ varsL t, n < 1000) : laidL (moveF s t) (movL 1000 x) = movL 1000 x := by
  refine laid_keep _ (fun d hd => ?_)
  unfold movL at hd
  rw [List.mem_map] at hd
  obtain ⟨c, hc, rfl⟩ := hd
  unfold okShift at ho
  rw [List.all_eq_true] at ho
  have h9 := ho c hc
  by_cases h0 : c < 0
  · rw [if_pos h0]
    simp only [h0, decide_true, Bool.not_true, Bool.false_or] at h9
    have h8 := isVarB_iff.1 h9
    unfold piece
    rw [if_pos (by omega)]
    unfold moveF
    rw [if_neg]
    · rfl
    · rintro ⟨_, hm⟩
      have := hv (-1 - (c - 1000)) (mem_varsL.2 ⟨c - 1000, by rw [show -1 - (-1 - (c - 1000)) = c - 1000 by omega] at hm; exact hm, by omega, rfl⟩)
      omega
  · rw [if_neg h0]
    unfold piece
    rw [if_neg h0]

/-- A term and what binds make of it, its variables moved away. -/
theorem uni_inside {sig : List Sy} {s : List Bd} {t : List Int} (h : applyE sig s t = 0) (ho : okShift 1000 (applyL sig s t) = true) (hv : ∀ n ∈ varsL t, n < 1000) : twoE sig t (movL 1000 (applyL sig s t)) = 0 ∧ Unif sig t (movL 1000 (applyL sig s t)) := by
  obtain ⟨hb, tt, _, e⟩ := apply_ok h
  have tx := term_laid hb tt
  rw [e] at ho ⊢
  have ty := mov_term ho tx
  have row : ∀ {u : List Int}, termE sig u = 0 → rowE sig u = 0 := fun {u} hu => by
    unfold termE at hu
    split at hu
    · exact hu
    · next h9 => exact absurd hu h9
  refine ⟨by unfold twoE; rw [if_pos tt, ty], moveF s t, fun n u hu => ?_, ?_⟩
  · unfold moveF at hu
    split at hu
    · next hm =>
      cases hu
      obtain ⟨_, k2⟩ := code_var (row_code (row tt) _ hm.2) (by omega)
      refine mov_row ?_ (piece_right (bnd_right hb) k2)
      unfold okShift at ho ⊢
      rw [List.all_eq_true] at ho ⊢
      intro c hc
      exact ho c (List.mem_flatMap.2 ⟨_, hm.2, hc⟩)
    · cases hu
  · rw [moveF_laid, moveF_keep s ho hv]

end Go.Proofs.YtpnkplidhbbliaaDoor

/- Either way round; a term by itself. -/
namespace Go.Proofs.YtpnkplidhbbliaaDoor
open Go.RowKit Go.Maps Go.BigFrame

theorem unif_swap {sig : List Sy} {a b : List Int} : Unif sig a b ↔ Unif sig b a := ⟨fun ⟨f, h1, h2⟩ => ⟨f, h1, h2.symm⟩, fun ⟨f, h1, h2⟩ => ⟨f, h1, h2.symm⟩⟩

theorem unif_self (sig : List Sy) (a : List Int) : Unif sig a a := ⟨fun _ => none, fun n u hu => (by cases hu), rfl⟩

theorem twoE_both {sig : List Sy} {a b : List Int} (h1 : termE sig a = 0) (h2 : termE sig b = 0) : twoE sig a b = 0 := by
  unfold twoE
  rw [if_pos h1, h2]

open Classical in
theorem uni_swap {sig : List Sy} {a b : List Int} (h1 : termE sig a = 0) (h2 : termE sig b = 0) : uniE sig a b = uniE sig b a ∧ uniL sig a b = uniL sig b a := by
  have ea := twoE_both h1 h2
  have eb := twoE_both h2 h1
  by_cases hm : ∃ g, Mg sig a b g
  · obtain ⟨g, hg⟩ := hm
    obtain ⟨p1, p2, p3⟩ := uniE_yes ea hg
    obtain ⟨q1, q2, q3⟩ := uniE_yes eb hg.swap
    have e : uniE sig a b = uniE sig b a := by rw [p1, q1, ysV_swap]
    refine ⟨e, ?_⟩
    by_cases h0 : uniE sig a b = 0
    · rw [p2 h0, q2 (e ▸ h0), ysV_swap]
    · rw [p3 h0, q3 (e ▸ h0)]
  · have hm' : ¬ ∃ g, Mg sig b a g := fun ⟨g, hg⟩ => hm ⟨g, hg.swap⟩
    have eg : mgG sig a b = mgG sig b a := by
      unfold mgG
      rw [dif_neg hm, dif_neg hm']
    have e : uniE sig a b = uniE sig b a := by
      unfold uniE
      rw [ea, eb, eg, ysV_swap]
      simp only [ne_eq, not_true_eq_false, if_false]
      by_cases hu : Unif sig a b
      · rw [if_neg (by simpa using hu), if_neg (by simpa using unif_swap.1 hu)]
      · rw [if_pos hu, if_pos (fun h => hu (unif_swap.2 h))]
    refine ⟨e, ?_⟩
    unfold uniL
    rw [e, eg, ysV_swap]

theorem sg_len {w : World} {v : Value} {sig : List Sy} (h : Sg w v sig) : sig.length ≤ 9223372036854775807 := by
  obtain ⟨ao, cap, _, h1, h2, _⟩ := Row.flat h
  unfold maxLen at h2
  omega

open Classical in
set_option maxRecDepth 100000 in
set_option maxHeartbeats 3200000 in
theorem unifyTurned_any (sv v1 v2 : Value) (sig : List Sy) (a b : List Int) (w : World) (hs : Sg w sv sig) (h1 : Is w v1 a) (h2 : Is w v2 b) (hT : Tabs w) (hla : a.length ≤ 1048576) (hlb : b.length ≤ 1048576) :
    Calls Tryd.prog 7 #[sv, v1, v2] w fun e w' => e = .returned (.bool true) ∧ Below w.heap.size w w' := by
  have hsl := sg_len hs
  have HS := hid hs
  have H1 := hid h1
  have H2 := hid h2
  have HT := hid hT
  have HB := hid (Below.refl w.heap.size w)
  clear hs h1 h2 hT
  go_enter Tryd.func7, Tryd.ntmps7
  go_wp2_with fail
  refine (shown6_any w HT.out).mono ?_
  rintro e w1 ⟨rfl, hb⟩
  have HB := hid hb
  clear hb
  go_wp2_with fail
  refine (refCheck_any sv v1 sig a w1 (HS.out.kp (Kp.of_below HB.out)) (H1.out.kp (Kp.of_below HB.out)) (by omega)).mono ?_
  rintro e w2 ⟨rfl, hb⟩
  have HBn := hid (below_step HB.out hb)
  clear hb HB
  have HB := HBn
  clear HBn
  by_cases ha : termE sig a = 0
  · rw [ha]
    go_wp2_with fail
    refine (refCheck_any sv v2 sig b w2 (HS.out.kp (Kp.of_below HB.out)) (H2.out.kp (Kp.of_below HB.out)) (by omega)).mono ?_
    rintro e w3 ⟨rfl, hb⟩
    have HBn := hid (below_step HB.out hb)
    clear hb HB
    have HB := HBn
    clear HBn
    by_cases hbz : termE sig b = 0
    · rw [hbz]
      have HSw := hid (uni_swap ha hbz)
      have HTw := hid (twoE_both ha hbz)
      have HTv := hid (twoE_both hbz ha)
      have HSf := hid (uni_self (twoE_both ha ha))
      have HTa := hid (twoE_both ha ha)
      go_wp2_with fail
      refine (unify_any sv v1 v2 sig a b w3 (HS.out.kp (Kp.of_below HB.out)) (H1.out.kp (Kp.of_below HB.out)) (H2.out.kp (Kp.of_below HB.out)) (HT.out.below HB.out) (by omega) hsl).mono ?_
      rintro e w4 ⟨u1, rfl, ho, hb⟩
      have HBn := hid (below_step HB.out hb)
      have HU1 := hid ho.bs
      clear hb ho HB
      have HB := HBn
      clear HBn
      go_wp2_with fail
      refine (unify_any sv v2 v1 sig b a w4 (HS.out.kp (Kp.of_below HB.out)) (H2.out.kp (Kp.of_below HB.out)) (H1.out.kp (Kp.of_below HB.out)) (HT.out.below HB.out) (by omega) hsl).mono ?_
      rintro e w5 ⟨u2, rfl, ho, hb⟩
      have HBn := hid (below_step HB.out hb)
      have HU2 := hid ho.bs
      have HU1n := hid (HU1.out.kp (Kp.of_below hb))
      clear HU1
      have HU1 := HU1n
      clear HU1n
      clear hb ho HB
      have HB := HBn
      clear HBn
      rw [← HSw.out.1]
      have hu2 := HU2.out
      rw [← HSw.out.2] at hu2
      clear HU2
      have HU2 := hid hu2
      clear hu2
      generalize uniE sig a b = E
      go_wp2_with fail
      refine (unify_any sv v1 v1 sig a a w5 (HS.out.kp (Kp.of_below HB.out)) (H1.out.kp (Kp.of_below HB.out)) (H1.out.kp (Kp.of_below HB.out)) (HT.out.below HB.out) (by omega) hsl).mono ?_
      rintro e w6 ⟨u3, rfl, ho, hb⟩
      have HBn := hid (below_step HB.out hb)
      have HU3 := hid ho.bs
      have HU1n := hid (HU1.out.kp (Kp.of_below hb))
      clear HU1
      have HU1 := HU1n
      clear HU1n
      have HU2n := hid (HU2.out.kp (Kp.of_below hb))
      clear HU2
      have HU2 := HU2n
      clear HU2n
      clear hb ho HB
      have HB := HBn
      clear HBn
      rw [HSf.out.1]
      have hu3 := HU3.out
      rw [HSf.out.2] at hu3
      obtain ⟨a3, c3, hv3, _, _, _⟩ := Row.flat hu3
      subst hv3
      clear hu3 HU3
      go_wp2_with fail
      refine (same6_any u1 u2 (uniL sig a b) w6 HU1.out HU2.out).mono ?_
      rintro e w7 ⟨rfl, hb⟩
      have HBn := hid (below_step HB.out hb)
      clear hb HB HU1 HU2
      have HB := HBn
      clear HBn
      go_wp2_with fail
      refine (can_any sv v1 v2 sig a b w7 (HS.out.kp (Kp.of_below HB.out)) (H1.out.kp (Kp.of_below HB.out)) (H2.out.kp (Kp.of_below HB.out)) (HT.out.below HB.out) (by omega)).mono ?_
      rintro e w8 ⟨rfl, hb⟩
      have HBn := hid (below_step HB.out hb)
      clear hb HB
      have HB := HBn
      clear HBn
      have hcd : decide (twoE sig a b = 0 ∧ Unif sig a b) = decide (Unif sig a b) := by rw [decide_eq_decide]; exact ⟨fun h => h.2, fun h => ⟨HTw.out, h⟩⟩
      rw [hcd]
      clear hcd
      go_wp2_with fail
      refine (can_any sv v2 v1 sig b a w8 (HS.out.kp (Kp.of_below HB.out)) (H2.out.kp (Kp.of_below HB.out)) (H1.out.kp (Kp.of_below HB.out)) (HT.out.below HB.out) (by omega)).mono ?_
      rintro e w9 ⟨rfl, hb⟩
      have HBn := hid (below_step HB.out hb)
      clear hb HB
      have HB := HBn
      clear HBn
      have hcd : decide (twoE sig b a = 0 ∧ Unif sig b a) = decide (Unif sig a b) := by rw [decide_eq_decide]; exact ⟨fun h => unif_swap.2 h.2, fun h => ⟨HTv.out, unif_swap.1 h⟩⟩
      rw [hcd]
      clear hcd
      generalize decide (Unif sig a b) = X
      have hXX : (X == X) = true := by simp
      go_wp2_with fail
      refine (can_any sv v1 v1 sig a a w9 (HS.out.kp (Kp.of_below HB.out)) (H1.out.kp (Kp.of_below HB.out)) (H1.out.kp (Kp.of_below HB.out)) (HT.out.below HB.out) (by omega)).mono ?_
      rintro e w10 ⟨rfl, hb⟩
      have HBn := hid (below_step HB.out hb)
      clear hb HB
      have HB := HBn
      clear HBn
      have hcd : decide (twoE sig a a = 0 ∧ Unif sig a a) = true := decide_eq_true ⟨HTa.out, unif_self sig a⟩
      rw [hcd]
      clear hcd
      go_wp2
      go_ret
      exact ⟨rfl, HB.out⟩
    · have HNo : Hid (twoE sig a b ≠ 0) := by unfold twoE; rw [if_pos ha]; exact hbz
      generalize hcc : termE sig b = c at hbz ⊢
      clear hcc
      go_wp2_with fail
      refine (can_any sv v1 v2 sig a b w3 (HS.out.kp (Kp.of_below HB.out)) (H1.out.kp (Kp.of_below HB.out)) (H2.out.kp (Kp.of_below HB.out)) (HT.out.below HB.out) (by omega)).mono ?_
      rintro e w8 ⟨rfl, hb⟩
      have HBn := hid (below_step HB.out hb)
      clear hb HB
      have HB := HBn
      clear HBn
      have hcd : decide (twoE sig a b = 0 ∧ Unif sig a b) = false := decide_eq_false (fun h => HNo.out h.1)
      rw [hcd]
      clear hcd
      go_wp2
      go_ret
      exact ⟨rfl, HB.out⟩
  · have HNo : Hid (twoE sig a b ≠ 0) := by unfold twoE; rw [if_neg ha]; exact ha
    generalize hcc : termE sig a = c at ha ⊢
    clear hcc
    go_wp2_with fail
    refine (can_any sv v1 v2 sig a b w2 (HS.out.kp (Kp.of_below HB.out)) (H1.out.kp (Kp.of_below HB.out)) (H2.out.kp (Kp.of_below HB.out)) (HT.out.below HB.out) (by omega)).mono ?_
    rintro e w8 ⟨rfl, hb⟩
    have HBn := hid (below_step HB.out hb)
    clear hb HB
    have HB := HBn
    clear HBn
    have hcd : decide (twoE sig a b = 0 ∧ Unif sig a b) = false := decide_eq_false (fun h => HNo.out h.1)
    rw [hcd]
    clear hcd
    go_wp2
    go_ret
    exact ⟨rfl, HB.out⟩

end Go.Proofs.YtpnkplidhbbliaaDoor

/- One term, resolved. -/
namespace Go.Proofs.YtpnkplidhbbliaaDoor
open Go.RowKit Go.Maps Go.BigFrame

open Classical in
set_option maxRecDepth 100000 in
set_option maxHeartbeats 6400000 in
theorem unifyOne_any (sv v1 v2 : Value) (sig : List Sy) (a b : List Int) (w : World) (hs : Sg w sv sig) (h1 : Is w v1 a) (h2 : Is w v2 b) (hT : Tabs w) (hla : a.length ≤ 1048576) (hlb : b.length ≤ 1048576) :
    Calls Tryd.prog 5 #[sv, v1, v2] w fun e w' => e = .returned (.bool true) ∧ Below w.heap.size w w' := by
  have hsl := sg_len hs
  have HS := hid hs
  have H1 := hid h1
  have H2 := hid h2
  have HT := hid hT
  have HB := hid (Below.refl w.heap.size w)
  clear hs h1 h2 hT
  go_enter Tryd.func5, Tryd.ntmps5
  go_wp2_with fail
  refine (shown6_any w HT.out).mono ?_
  rintro e w1 ⟨rfl, hb⟩
  have HBn := hid (below_step HB.out hb)
  clear hb HB
  have HB := HBn
  clear HBn
  go_wp2_with fail
  refine (unifyM_any sv v1 v2 sig a b w1 (HS.out.kp (Kp.of_below HB.out)) (H1.out.kp (Kp.of_below HB.out)) (H2.out.kp (Kp.of_below HB.out)) (HT.out.below HB.out) (by omega) hsl).mono ?_
  rintro e w2 ⟨⟨u, rfl, ho, hb⟩, hM⟩
  have HU := hid ho.bs
  clear ho
  have HBn := hid (below_step HB.out hb)
  clear hb HB
  have HB := HBn
  clear HBn
  by_cases h0 : uniE sig a b = 0
  · have HO := hid (uni_one hM h0)
    rw [h0]
    obtain ⟨L, hL⟩ : ∃ L, L = uniL sig a b := ⟨_, rfl⟩
    rw [← hL] at HO HU
    clear hL hM h0
    obtain ⟨uo, uc, rfl, hu1, hu2, _⟩ := Row.flat HU.out
    unfold maxLen at hu2
    go_wp2
    go_loopw [10] (fun iv wr => ∃ i : Nat, i ≤ L.length ∧ iv = .int .i64 i ∧ Below w2.heap.size w2 wr) (fun iv _ => L.length - (intOf iv).toNat)
    case atStart => exact ⟨0, Nat.zero_le _, rfl, Below.refl _ _⟩
    case round =>
      obtain ⟨i, hi, rfl, hbl⟩ := hrel
      have HB1 := hid hbl
      by_cases hil : i < L.length
      · obtain ⟨g, off, x, xa, t, xc, rfl, hm, hd0, hd1, hit, hx1, hx2, hx3⟩ := (HU.out.kp (Kp.of_below hbl)).at hil
        have HVs : Hid (∀ n ∈ varsL t, ∀ y ∈ L, y.1 ≠ n) := HO.out.1 _ (List.mem_of_getElem? hm)
        have HIt := hid hit
        clear hit hm hbl
        go_wp2_with fail
        refine (vars_any _ t wr HIt.out (by omega)).mono ?_
        rintro e w4 ⟨vv, rfl, hvo, hb4⟩
        have HB2 := hid (below_step HB1.out hb4)
        have HVI := hid hvo.is
        clear hvo hb4 hd0 hd1
        obtain ⟨V, hV⟩ : ∃ V, V = varsL t := ⟨_, rfl⟩
        rw [← hV] at HVs HVI
        clear hV
        obtain ⟨vo, vc, rfl, hv1, hv2, _⟩ := HVI.out.flatI
        go_wp2
        go_loopw [12] (fun kv ws => ∃ k : Nat, k ≤ V.length ∧ kv = .int .i64 k ∧ Below w4.heap.size w4 ws) (fun kv _ => V.length - (intOf kv).toNat)
        case atStart => exact ⟨0, Nat.zero_le _, rfl, Below.refl _ _⟩
        case round =>
          obtain ⟨k, hk, rfl, hbl⟩ := hrel
          have HB3 := hid hbl
          by_cases hkl : k < V.length
          · obtain ⟨n, hn⟩ : ∃ n, V[k]? = some n := ⟨_, List.getElem?_eq_getElem hkl⟩
            have HNv : Hid (∀ y ∈ L, y.1 ≠ n) := HVs.out n (List.mem_of_getElem? hn)
            have HN := hid hn
            clear hn hbl
            go_wp2
            go_loopw [13] (fun jv ws => ∃ j : Nat, j ≤ L.length ∧ jv = .int .i64 j ∧ Below wr.heap.size wr ws) (fun jv _ => L.length - (intOf jv).toNat)
            case atStart => exact ⟨0, Nat.zero_le _, rfl, Below.refl _ _⟩
            case round =>
              obtain ⟨j, hj, rfl, hbl⟩ := hrel
              have HB4 := hid hbl
              by_cases hjl : j < L.length
              · obtain ⟨g2, off2, y, ya, t2, yc, hao, hm2, hc0, hc1, hit2, hy1, hy2, hy3⟩ := (HU.out.kp (Kp.of_below (below_step (below_step HB2.out HB3.out) hbl))).at hjl
                simp only [Option.some.injEq, Addr.mk.injEq, and_true] at hao
                obtain ⟨rfl, rfl⟩ := hao
                have hyn : ¬ y = n := HNv.out _ (List.mem_of_getElem? hm2)
                obtain ⟨gv, ov, n2, rfl, hn2, hvc, hn3, hn4⟩ := (HVI.out.kp (Kp.of_below (below_step HB3.out hbl))).at hkl
                rw [HN.out] at hn2
                cases hn2
                clear hm2 hit2 hbl hc1
                go_wp2
                go_region
                go_wp2
                go_roundw
                case rel => exact ⟨j + 1, by omega, by go_num, HB4.out.drew⟩
                case measure => simp [intOf]; omega
              · clear hbl
                go_wp2
                go_roundw
                case rel => exact ⟨k + 1, by omega, by go_num, below_step HB3.out HB4.out⟩
                case measure => simp [intOf]; omega
          · clear hbl
            go_wp2
            go_roundw
            case rel => exact ⟨i + 1, by omega, by go_num, below_step HB2.out HB3.out⟩
            case measure => simp [intOf]; omega
      · have HBn := hid (below_step HB.out hbl)
        have HUn := hid (HU.out.kp (Kp.of_below hbl))
        clear HB HU hbl HB1
        have HB := HBn
        have HU := HUn
        clear HBn HUn
        go_wp2_with fail
        refine (apply_any sv _ v1 sig L a wr (HS.out.kp (Kp.of_below HB.out)) HU.out (H1.out.kp (Kp.of_below HB.out)) (HT.out.below HB.out) (by omega)).mono ?_
        rintro e w5 ⟨xv, rfl, ho, hb⟩
        have HX := hid ho.is
        clear ho
        have HBn := hid (below_step HB.out hb)
        have HUn := hid (HU.out.kp (Kp.of_below hb))
        clear HU
        have HU := HUn
        clear HUn
        clear hb HB
        have HB := HBn
        clear HBn
        rw [HO.out.2.1]
        go_wp2_with fail
        refine (apply_any sv _ v2 sig L b w5 (HS.out.kp (Kp.of_below HB.out)) HU.out (H2.out.kp (Kp.of_below HB.out)) (HT.out.below HB.out) (by omega)).mono ?_
        rintro e w6 ⟨yv, rfl, ho, hb⟩
        have HY := hid ho.is
        clear ho
        have HBn := hid (below_step HB.out hb)
        have HUn := hid (HU.out.kp (Kp.of_below hb))
        clear HU
        have HU := HUn
        clear HUn
        have HXn := hid (HX.out.kp (Kp.of_below hb))
        clear HX
        have HX := HXn
        clear HXn
        clear hb HB
        have HB := HBn
        clear HBn
        have HC := hid (sameRow6_any xv yv _ _ w6 HX.out HY.out)
        rw [decide_eq_true HO.out.2.2.1] at HC
        rcases HO.out.2.2.2.1 with hE | hE
        · have HO4 := hid (HO.out.2.2.2.2 (HO.out.2.1.trans hE))
          have hxl : (applyL sig L a).length ≤ 512 := by obtain ⟨_, _, h3, h4⟩ := apply_ok (HO.out.2.1.trans hE); rw [h4]; exact h3
          rw [hE]
          clear hE
          go_wp2_with fail
          refine HC.out.mono ?_
          rintro e w7 ⟨rfl, nq, hw7⟩
          have hb := drawn_below hw7
          have HBn := hid (below_step HB.out hb)
          have HUn := hid (HU.out.kp (Kp.of_below hb))
          have HXn := hid (HX.out.kp (Kp.of_below hb))
          clear hw7 hb HB HU HX HC
          have HB := HBn
          have HU := HUn
          have HX := HXn
          clear HBn HUn HXn
          go_wp2_with fail
          refine (apply_any sv _ xv sig L (applyL sig L a) w7 (HS.out.kp (Kp.of_below HB.out)) HU.out HX.out (HT.out.below HB.out) (by omega)).mono ?_
          rintro e w8 ⟨zv, rfl, ho, hb⟩
          have HZ := hid ho.is
          clear ho
          have HBn := hid (below_step HB.out hb)
          have HXn := hid (HX.out.kp (Kp.of_below hb))
          clear HX
          have HX := HXn
          clear HXn
          clear hb HB
          have HB := HBn
          clear HBn
          rw [HO4.out.1]
          have HC := hid (sameRow6_any zv xv _ _ w8 HZ.out HX.out)
          rw [decide_eq_true HO4.out.2] at HC
          go_wp2_with fail
          refine HC.out.mono ?_
          rintro e w9 ⟨rfl, nq, hw9⟩
          have hb := drawn_below hw9
          have HBn := hid (below_step HB.out hb)
          clear hw9 hb HB HC
          go_wp2
          go_ret
          exact ⟨rfl, HBn.out⟩
        · rw [hE]
          clear hE
          go_wp2_with fail
          refine HC.out.mono ?_
          rintro e w7 ⟨rfl, nq, hw7⟩
          have hb := drawn_below hw7
          have HBn := hid (below_step HB.out hb)
          clear hw7 hb HB HC
          go_wp2
          go_ret
          exact ⟨rfl, HBn.out⟩
  · rw [uni_none h0] at HU
    obtain ⟨uo, uc, rfl, hu1, hu2, _⟩ := Row.flat HU.out
    generalize uniE sig a b = E at h0 ⊢
    have heb : (E != 0) = true := by simpa using h0
    go_wp2
    go_ret
    exact ⟨rfl, HB.out⟩

end Go.Proofs.YtpnkplidhbbliaaDoor
