/- Texts of the proof, one behind the other. -/
import Derived.Test.YtelacmijkbgliaaDoorOwn14
import Derived.Test.YtelacmijkbgliaaDoorOwn2
import Derived.Test.YtelacmijkbgliaaDoorOwn3
import Derived.Shelf.SlIterI.Sorted
import Derived.Ground.GgzProg
import Derived.Test.YtelacmijkbgliaaDoorOwn11
import Derived.Test.YtelacmijkbgliaaDoorOwn7
/- Two most general binds that keep the least variables are one: plain. -/
namespace Go.Proofs.YtelacmijkbgliaaDoor

theorem laid_cons6 (g : Int → Option (List Int)) (c : Int) (t : List Int) : laidL g (c :: t) = piece g c ++ laidL g t := by
  unfold laidL
  rw [List.flatMap_cons]

theorem laid_one6 (g : Int → Option (List Int)) (c : Int) : laidL g [c] = piece g c := by
  rw [laid_cons6]
  unfold laidL
  simp

theorem laid_long {g : Int → Option (List Int)} (hne : ∀ c, piece g c ≠ []) : ∀ t, t.length ≤ (laidL g t).length
  | [] => Nat.zero_le _
  | c :: t => by
    have ih := laid_long hne t
    have h1 := List.length_pos_iff.2 (hne c)
    rw [laid_cons6, List.length_append, List.length_cons]
    omega

theorem laid_fix {g : Int → Option (List Int)} (hne : ∀ c, piece g c ≠ []) : ∀ t, laidL g t = t → ∀ d ∈ t, piece g d = [d]
  | [], _, d, hd => by cases hd
  | c :: t, h, d, hd => by
    rw [laid_cons6] at h
    have h1 := List.length_pos_iff.2 (hne c)
    have h2 := laid_long hne t
    have h3 := congrArg List.length h
    rw [List.length_append, List.length_cons] at h3
    obtain ⟨e, he⟩ := List.length_eq_one_iff.1 (show (piece g c).length = 1 by omega)
    rw [he, List.cons_append, List.nil_append, List.cons.injEq] at h
    rcases List.mem_cons.1 hd with rfl | hd
    · rw [he, h.1]
    · exact laid_fix hne t h.2 d hd

theorem laid_keep {g : Int → Option (List Int)} : ∀ t, (∀ d ∈ t, piece g d = [d]) → laidL g t = t
  | [], _ => rfl
  | c :: t, h => by
    rw [laid_cons6, h c (List.mem_cons_self ..), laid_keep t (fun d hd => h d (List.mem_cons_of_mem _ hd))]
    rfl

/-- What becomes a variable becomes one of no greater number. -/
def Least (g : Int → Option (List Int)) : Prop := ∀ c d, c < 0 → d < 0 → piece g c = [d] → c ≤ d

theorem mgu_one {g g' : Int → Option (List Int)} (hne : ∀ c, piece g c ≠ []) (hne' : ∀ c, piece g' c ≠ []) (h1 : ∀ t, laidL g (laidL g' t) = laidL g t) (h2 : ∀ t, laidL g' (laidL g t) = laidL g' t) (hi : ∀ t, laidL g (laidL g t) = laidL g t) (hl : Least g) (hl' : Least g') (c : Int) : piece g' c = piece g c := by
  have hA : ∀ d ∈ piece g c, piece g d = [d] := laid_fix hne _ (by
    have := hi [c]
    rw [laid_one6] at this
    exact this)
  have hB : ∀ d ∈ piece g c, piece g' d = [d] := fun d hd => by
    by_cases hd0 : d < 0
    · have h3 := h1 [d]
      rw [laid_one6, laid_one6, hA d hd] at h3
      have h4 := laid_long hne (piece g' d)
      have h5 := List.length_pos_iff.2 (hne' d)
      rw [h3, List.length_singleton] at h4
      obtain ⟨e, he⟩ := List.length_eq_one_iff.1 (show (piece g' d).length = 1 by omega)
      rw [he, laid_one6] at h3
      have he0 : e < 0 := by
        by_cases he0 : e < 0
        · exact he0
        · unfold piece at h3
          rw [if_neg he0, List.cons.injEq] at h3
          omega
      have h6 := hl e d he0 hd0 h3
      have h7 := hl' d e hd0 he0 he
      rw [he, show e = d by omega]
    · unfold piece
      rw [if_neg hd0]
  have h8 := h2 [c]
  rw [laid_one6, laid_one6, laid_keep _ hB] at h8
  exact h8.symm

theorem piece_ne {sig : List Sy} {g : Int → Option (List Int)} (hg : ∀ n u, g n = some u → rowE sig u = 0) (c : Int) : piece g c ≠ [] := by
  unfold piece
  split
  · cases h : g (-1 - c) with
    | none => simp
    | some u =>
      intro e
      have h1 := hg _ u h
      rw [Option.getD_some] at e
      subst e
      simp [rowE, firstT] at h1
  · simp

/-- The binds of the classes keep the least variables. -/
theorem least_of {sig : List Sy} {L : List Nd} (hL : NdOk sig L) {ra rb : Nat} {root face : Nat → Nat} (h : Sol6 sig L root face ra rb) : Least (gV L (vC L root face)) := fun c d hc hd he => by
  unfold piece at he
  rw [if_pos hc] at he
  by_cases hx : ∃ i : Nat, L[i]? = some (Nd.var (-1 - c))
  · obtain ⟨i, hi⟩ := hx
    have hil := (List.getElem?_eq_some_iff.1 hi).1
    rw [gV_eq hL hi, Option.getD_some] at he
    obtain ⟨t, ht⟩ := h.tm i hil
    rw [vC_eq ht] at he
    cases ht with
    | var h9 =>
      have := h.ok.least i _ _ hi h9
      rw [List.cons.injEq] at he
      omega
    | app h9 hl _ =>
      rw [List.cons.injEq] at he
      exact ((hL.sym _ _ _ h9).1 (by rw [he.1]; exact hd)).elim
  · have h9 : gV L (vC L root face) (-1 - c) = none := by
      unfold gV
      rw [dif_neg hx]
    rw [h9, Option.getD_none, List.cons.injEq] at he
    omega

end Go.Proofs.YtelacmijkbgliaaDoor

/- What the classes tell of each variable, plainly. -/
namespace Go.Proofs.YtelacmijkbgliaaDoor

theorem bel_cnt {sig : List Sy} {M : List Nm} (hL : NdOk sig (M.map Nm.nd)) {root face : Nat → Nat} (hc : ClOk (M.map Nm.nd) root face) (hcl : Closed (M.map Nm.nd) root face) {q : Nat} {cnt : Nat → Int} {O : List Nat} (hci : CI M root face q cnt O) {r x : Nat} (h : Bel (M.map Nm.nd) r x) (hp : 0 < cnt (root r)) : 0 < cnt (root x) := by
  have hlen : (M.map Nm.nd).length = M.length := by rw [List.length_map]
  induction h with
  | here => exact hp
  | arg h hx hy ih =>
    rename_i x s xs y
    have hxl := (List.getElem?_eq_some_iff.1 hx).1
    obtain ⟨xs', hx'⟩ := hc.app x s xs hx
    obtain ⟨k, hk⟩ := List.getElem?_of_mem hy
    have e1 := (hL.sym x s xs hx).2.2
    have e2 := (hL.sym _ s xs' hx').2.2
    have hkl := (List.getElem?_eq_some_iff.1 hk).1
    have hk' : xs'[k]? = some xs'[k] := List.getElem?_eq_getElem (by omega)
    have h7 := hcl x s xs xs' hx hx' k y _ hk hk'
    rw [h7]
    refine hci.dn (root x) (by have := hc.lt x hxl; omega) (hc.idem x hxl) ih _ ⟨s, xs', xs'[k], hx', List.getElem_mem _, rfl⟩

theorem cnt_all {sig : List Sy} {w w' : World} {a b : List Int} {M : List Nm} {L : List (Int × Value)} {ra rb T : Nat} {into : Nat → Option Nat} {face root rk : Nat → Nat} {cnt : Nat → Int} (h2 : Two6 sig a b M L ra rb) (h : Slvd sig w w' a b M L ra rb T into face root rk cnt) {i : Nat} (hi : i < M.length) :
    ∃ t, TmC (M.map (·.nd)) root face (root i) t ∧ cnt (root i) = cutL t.length := by
  have hlen : (M.map Nm.nd).length = M.length := by rw [List.length_map]
  have hlen2 : (M.map (fun x => x.nd)).length = M.length := by rw [List.length_map]
  have hcl := closed_of h.wait
  have hone : root ra = root rb := h.jn.2.none
  have h0 : 0 < cnt (root ra) := by
    rcases h.ci.go with hp | hp
    · exact hp
    · cases hp
  have hp : 0 < cnt (root i) := by
    rcases h2.cov i hi with h9 | h9
    · exact bel_cnt h2.ok h.ok hcl h.ci h9 h0
    · exact bel_cnt h2.ok h.ok hcl h.ci h9 (by rw [← hone]; exact h0)
  rcases h.ci.st (root i) (by have := h.ok.lt i (by omega); omega) (h.ok.idem i (by omega)) with h9 | h9 | h9
  · omega
  · omega
  · exact h9

/-- The binding of the classes. -/
noncomputable def gB (M : List Nm) (root face : Nat → Nat) : Int → Option (List Int) := gV (M.map (·.nd)) (vC (M.map (·.nd)) root face)

theorem var_at {sig : List Sy} {w w' : World} {a b : List Int} {M : List Nm} {L : List (Int × Value)} {ra rb T : Nat} {into : Nat → Option Nat} {face root rk : Nat → Nat} {cnt : Nat → Int} (h2 : Two6 sig a b M L ra rb) (h : Slvd sig w w' a b M L ra rb T into face root rk cnt) {n : Int} {v : Value} (hl : L.lookup n = some v) :
    ∃ i m mr t, M[i]? = some m ∧ m.nd = .var n ∧ v = .pointer (some ⟨m.blk, 0, none⟩) ∧ M[root i]? = some mr ∧ root (root i) = root i ∧ face (root i) < M.length ∧ TmC (M.map (·.nd)) root face (root i) t ∧ cnt (root i) = cutL t.length ∧ piece (gB M root face) (-1 - n) = t ∧ (0 ≤ n ∧ n < 1048576) ∧
      (match (M[face (root i)]?).map Nm.nd with | some (.var k) => decide (k = n) | _ => false) = decide (t = [-1 - n]) := by
  have hlen : (M.map Nm.nd).length = M.length := by rw [List.length_map]
  have hlen2 : (M.map (fun x => x.nd)).length = M.length := by rw [List.length_map]
  obtain ⟨i, m, hm, hn, hv⟩ := (h2.vm n v).1 hl
  have hi := (List.getElem?_eq_some_iff.1 hm).1
  obtain ⟨t, ht, hct⟩ := cnt_all h2 h hi
  have hri := h.ok.lt i (by omega)
  have hfi := h.ok.face_lt i (by omega)
  have hLi : (M.map (·.nd))[i]? = some (Nd.var n) := by rw [List.getElem?_map, hm]; simp [hn]
  have hnum := h2.ok.num i n hLi
  obtain ⟨mr, hmr⟩ : ∃ x, M[root i]? = some x := ⟨_, List.getElem?_eq_getElem (by omega)⟩
  have hpc : piece (gB M root face) (-1 - n) = t := by
    unfold piece gB
    rw [if_pos (by omega), show -1 - (-1 - n) = n by omega, gV_eq h2.ok hLi, Option.getD_some, vC_eq ht]
  refine ⟨i, m, mr, t, hm, hn, hv, hmr, h.ok.idem i (by omega), by omega, ht, hct, hpc, hnum, ?_⟩
  obtain ⟨mf, hmf⟩ : ∃ x, M[face (root i)]? = some x := ⟨_, List.getElem?_eq_getElem (by omega)⟩
  have hLf : (M.map (·.nd))[face (root i)]? = some mf.nd := by rw [List.getElem?_map, hmf]; rfl
  rw [hmf]
  simp only [Option.map_some]
  cases ht with
  | var h9 =>
    rename_i k
    rw [hLf] at h9
    simp only [Option.some.injEq] at h9
    rw [h9]
    simp only
    rw [decide_eq_decide]
    constructor
    · rintro rfl; rfl
    · intro e
      simp only [List.cons.injEq, and_true] at e
      omega
  | app h9 hl9 ht9 =>
    rename_i s xs ts
    have hs := (h2.ok.sym _ s xs h9).1
    rw [hLf] at h9
    simp only [Option.some.injEq] at h9
    rw [h9]
    simp only
    symm
    rw [decide_eq_false_iff_not]
    intro e
    simp only [List.cons.injEq] at e
    omega

/-- Whether a variable is kept. -/
def keptB (g : Int → Option (List Int)) (n : Int) : Bool := decide (piece g (-1 - n) = [-1 - n])

def bigB (g : Int → Option (List Int)) (n : Int) : Bool := !keptB g n && decide (512 < (piece g (-1 - n)).length)

/-- What Unify tells of variables: the error, and the binds. -/
def riseE (g : Int → Option (List Int)) (ys : List Int) : Int := if ys.any (bigB g) then 2 else 0

def riseL (g : Int → Option (List Int)) (ys : List Int) : List Bd := (ys.filter fun n => !keptB g n).map fun n => (n, piece g (-1 - n))

theorem riseL_kept {g : Int → Option (List Int)} {ys : List Int} {k : Nat} {n : Int} (h : ys[k]? = some n) (hk : keptB g n = true) : riseL g (ys.take (k + 1)) = riseL g (ys.take k) := by
  unfold riseL
  rw [take_get h, List.filter_append]
  simp [hk]

theorem riseL_step {g : Int → Option (List Int)} {ys : List Int} {k : Nat} {n : Int} (h : ys[k]? = some n) (hk : keptB g n = false) : riseL g (ys.take (k + 1)) = riseL g (ys.take k) ++ [(n, piece g (-1 - n))] := by
  unfold riseL
  rw [take_get h, List.filter_append, List.map_append]
  simp [hk]

theorem riseL_len (g : Int → Option (List Int)) (ys : List Int) : (riseL g ys).length ≤ ys.length := by
  unfold riseL
  rw [List.length_map]
  exact List.length_filter_le _ _

theorem big_step {g : Int → Option (List Int)} {ys : List Int} {k : Nat} {n : Int} (h : ys[k]? = some n) (hb : (ys.take k).any (bigB g) = false) (hn : bigB g n = false) : (ys.take (k + 1)).any (bigB g) = false := by
  rw [take_get h, List.any_append, hb]
  simp [hn]

theorem big_here {g : Int → Option (List Int)} {ys : List Int} {k : Nat} {n : Int} (h : ys[k]? = some n) (hn : bigB g n = true) : riseE g ys = 2 := by
  unfold riseE
  rw [if_pos (List.any_eq_true.2 ⟨n, List.mem_of_getElem? h, hn⟩)]

end Go.Proofs.YtelacmijkbgliaaDoor

/- The keys of a map of variables, sorted (slices.Sorted of maps.Keys). -/
namespace Go.Proofs.YtelacmijkbgliaaDoor
open Go.RowKit Go.Maps Go.Sort Go.Shelf

def Tryd.keysLay_ren : Go.Shelf.Ren := ⟨fun | 7 => 41 | 10 => 68 | n => n, fun | 23 => 43 | 26 => 3 | 3 => 74 | 28 => 72 | 0 => 0 | 27 => 71 | 33 => 58 | 4 => 4 | n => n, fun | n => n⟩
theorem Tryd.keysLay : Go.Proofs.SlLaysZI.n7 Tryd.prog Tryd.keysLay_ren := {
  mixed := by kernel_rfl
  f7 := ⟨Tryd.f41.name, by decide, Tryd.func41.trans (congrArg some (by kernel_rfl))⟩
  f10 := ⟨Tryd.f68.name, by decide, Tryd.func68.trans (congrArg some (by kernel_rfl))⟩
  t0 := Tryd.underlying0
  a0 := Tryd.isAgg0
  z0 := Tryd.sizeOf0
  v0 := Tryd.zeroValue0
  t4 := Tryd.underlying4
  a4 := Tryd.isAgg4
  z4 := Tryd.sizeOf4
  v4 := Tryd.zeroValue4
  t23 := Tryd.underlying43
  a23 := Tryd.isAgg43
  z23 := Tryd.sizeOf43
  v23 := Tryd.zeroValue43
  t26 := Tryd.underlying3
  a26 := Tryd.isAgg3
  z26 := Tryd.sizeOf3
  v26 := Tryd.zeroValue3
  t27 := Tryd.underlying71
  a27 := Tryd.isAgg71
  z27 := Tryd.sizeOf71
  v27 := Tryd.zeroValue71
  t28 := Tryd.underlying72
  a28 := Tryd.isAgg72
  z28 := Tryd.sizeOf72
  v28 := Tryd.zeroValue72
  t33 := Tryd.underlying58
  a33 := Tryd.isAgg58
  z33 := Tryd.sizeOf58
  v33 := Tryd.zeroValue58 }

def Tryd.sortedLay_ren : Go.Shelf.Ren := ⟨fun | 6 => 40 | 8 => 66 | 9 => 67 | 11 => 82 | 13 => 84 | 12 => 83 | 23 => 98 | 24 => 99 | 14 => 89 | 15 => 90 | 16 => 91 | 17 => 92 | 18 => 93 | 19 => 94 | 20 => 95 | 21 => 96 | 22 => 97 | 25 => 105 | 26 => 106 | 27 => 107 | 28 => 108 | 29 => 109 | 30 => 110 | 31 => 113 | n => n, fun | 26 => 3 | 28 => 72 | 24 => 23 | 0 => 0 | 3 => 3 | 37 => 122 | 48 => 135 | 50 => 137 | 4 => 4 | 40 => 128 | 39 => 127 | 45 => 132 | 5 => 5 | 9 => 9 | 51 => 139 | 55 => 143 | 57 => 151 | 58 => 152 | 33 => 58 | n => n, fun | n => n⟩
theorem Tryd.sortedLay : Go.Proofs.SlLaysZI.n6 Tryd.prog Tryd.sortedLay_ren := {
  mixed := by kernel_rfl
  f6 := ⟨Tryd.f40.name, by decide, Tryd.func40.trans (congrArg some (by kernel_rfl))⟩
  f8 := ⟨Tryd.f66.name, by decide, Tryd.func66.trans (congrArg some (by kernel_rfl))⟩
  f11 := ⟨Tryd.f82.name, by decide, Tryd.func82.trans (congrArg some (by kernel_rfl))⟩
  t0 := Tryd.underlying0
  a0 := Tryd.isAgg0
  z0 := Tryd.sizeOf0
  v0 := Tryd.zeroValue0
  t24 := Tryd.underlying23
  a24 := Tryd.isAgg23
  z24 := Tryd.sizeOf23
  v24 := Tryd.zeroValue23
  t26 := Tryd.underlying3
  a26 := Tryd.isAgg3
  z26 := Tryd.sizeOf3
  v26 := Tryd.zeroValue3
  t28 := Tryd.underlying72
  a28 := Tryd.isAgg72
  z28 := Tryd.sizeOf72
  v28 := Tryd.zeroValue72
  i26 := by kernel_rfl }

theorem sorts6 (m : Nat) : AnyZI.SortsIn Tryd.prog Tryd.sortedLay_ren Fence.wide m :=
  ⟨fun blk off cap ss W hH hblk hsz => callsIn_wide.2 (Any.slices_Sort_int Tryd.sortLayI blk off cap ss W hH hblk hsz),
   fun p cap W => callsIn_wide.2 (Any.slices_Sort_int_none Tryd.sortLayI p cap W)⟩

/-- The keys, each once. -/
def keyL : List (Int × Value) → List Int
  | [] => []
  | p :: L => if p.1 ∈ keyL L then keyL L else p.1 :: keyL L

theorem keyL_nodup : ∀ L : List (Int × Value), (keyL L).Nodup
  | [] => List.nodup_nil
  | p :: L => by
    unfold keyL
    split
    · exact keyL_nodup L
    · next h => exact List.nodup_cons.2 ⟨h, keyL_nodup L⟩

theorem keyL_mem : ∀ (L : List (Int × Value)) (x : Int), x ∈ keyL L ↔ (L.lookup x).isSome = true
  | [], x => by simp [keyL]
  | p :: L, x => by
    have ih := keyL_mem L x
    obtain ⟨k, v⟩ := p
    unfold keyL
    rw [List.lookup_cons]
    by_cases e : x = k
    · subst e
      simp only [BEq.rfl, Option.isSome_some, iff_true]
      split
      · assumption
      · exact List.mem_cons_self ..
    · have e2 : (x == k) = false := by simpa using e
      rw [e2]
      simp only
      rw [← ih]
      split
      · exact Iff.rfl
      · rw [List.mem_cons]
        exact ⟨fun h => h.resolve_left e, .inr⟩

/-- The keys in rising order. -/
def keyS (L : List (Int × Value)) : List Int := (keyL L).mergeSort (fun x y => decide (x ≤ y))

theorem keyS_mem (L : List (Int × Value)) (x : Int) : x ∈ keyS L ↔ (L.lookup x).isSome = true := by
  unfold keyS
  rw [List.mem_mergeSort, keyL_mem]

theorem MapV.keys {w : World} {b : Nat} {L : List (Int × Value)} (h : MapV w b L) : ∃ D : DataW Value, w.ownsMap Tryd.prog 3 RV b L.length D ∧ Maps.size D = L.length ∧ ∀ ss : List Int, ss.Perm (intKeys D) → ss.mergeSort (fun x y => decide (x ≤ y)) = keyS L ∧ ss.length = (keyS L).length := by
  obtain ⟨D, h1, h2, h3, h4⟩ := h
  have hu : Tryd.prog.underlying 3 = some (.int .i64) := by kernel_rfl
  have hc : CollectedI D (fun _ => false) (keyL L) := ⟨keyL_nodup L, fun x => by rw [keyL_mem, h4]; simp⟩
  have hp := hc.perm h1 (int_keyed hu) hu (fun _ => rfl)
  refine ⟨D, h1, h2, fun ss hs => ?_⟩
  have := mergeSort_of_perm_i (hs.trans hp.symm)
  refine ⟨this, ?_⟩
  unfold keyS
  rw [List.length_mergeSort]
  exact (hs.trans hp.symm).length_eq

theorem keys6_any (b : Nat) (w : World) : Calls Tryd.prog 41 #[.map (some b)] w fun e w' => e = .returned (.func (.func 68) #[] #[.pointer (some ⟨w.heap.size, 0, none⟩)]) ∧ w' = w.alloc (.cells #[.map (some b)] 43) :=
  (callsIn_wide (n := 5)).1 (AnyZI.keys_in Tryd.keysLay Fence.wide 5 trivial rfl (some b) w)

theorem sorted6_any (b : Nat) (L : List (Int × Value)) (w : World) (h : MapV w b L) (hl : L.length * 8 ≤ 140737488355328) :
    Calls Tryd.prog 40 #[.func (.func 68) #[] #[.pointer (some ⟨w.heap.size, 0, none⟩)]] (w.alloc (.cells #[.map (some b)] 43)) fun e w' => ∃ v, e = .returned v ∧ OwI w' w.heap.size v (keyS L) ∧ Below w.heap.size w w' := by
  obtain ⟨D, hown, hsz, hkeys⟩ := h.keys
  have hbl := hown.lt
  have hu : Tryd.prog.underlying 3 = some (.int .i64) := by kernel_rfl
  have hwf := intKeys_wf hown hu
  have hseq : SeqGives Fence.wide 2 Tryd.prog 68 #[.pointer (some ⟨w.heap.size, 0, none⟩)] encZ (fun ss => ss.Perm (intKeys D)) (Maps.size D) (w.alloc (.cells #[.map (some b)] 43)) :=
    AnyZI.keys_gives (ρ := Tryd.keysLay_ren) { Tryd.keysLay with } Fence.wide _ trivial rfl (by omega) w.heap.size b L.length D _ (by simp) (by simp) (by
      obtain ⟨es, clock, hb, Ft, hs, hD⟩ := hown
      exact ⟨es, clock, (Below.heap_alloc _ _ b hbl).trans hb, Ft, hs, hD⟩)
  have cS := AnyZI.sorted_in Tryd.sortedLay Fence.wide 5 trivial trivial trivial trivial rfl (by omega) (sorts6 _) (enters_of Tryd.func67 (by kernel_rfl) rfl) 68 #[.pointer (some ⟨w.heap.size, 0, none⟩)] trivial (enters_of Tryd.func68 (by kernel_rfl) rfl) _ _ (by rw [hsz]; unfold maxLen; omega) (by rw [hsz]; exact hl) _ hseq
  have cS2 := callsIn_wide.1 cS
  change Calls Tryd.prog 40 _ _ _ at cS2
  refine cS2.mono ?_
  rintro e w' ⟨v, ss, rfl, hS, hrow, hnil, hb⟩
  obtain ⟨e1, e2⟩ := hkeys ss hS
  rw [e1, e2] at hrow
  refine ⟨v, rfl, ⟨fun k x hk => ?_, ?_⟩, below_step (below_alloc _) hb⟩
  · have hx : x ∈ ss := by
      have := List.mem_of_getElem? hk
      rw [← e1, List.mem_mergeSort] at this
      exact this
    have h9 := hwf x (hS.mem_iff.1 hx)
    simp [Lit.wf, IntKind.min, IntKind.max, IntKind.signed, IntKind.bits] at h9
    omega
  · have h9 : w'.ownsRow (w.alloc (.cells #[.map (some b)] 43)).heap.size 3 1 v (keyS L).length ((keyS L).map I64) := hrow
    exact h9.mono (by simp)

end Go.Proofs.YtelacmijkbgliaaDoor

/- risingBinds of package unify walked. -/
namespace Go.Proofs.YtelacmijkbgliaaDoor
open Go.RowKit Go.Maps Go.BigFrame

theorem OwI.ch6 {w w' : World} {base : Nat} {v : Value} {xs : List Int} {M : List Nm} (h : OwI w base v xs) (hc : Ch6 M w w') (hm : ∀ m ∈ M, m.cls < base) : OwI w' base v xs := ⟨h.1, own_ch6 h.2 hc hm⟩

theorem OBW.ch6 {base : Nat} {w w' : World} {v : Value} {s : List Bd} {M : List Nm} (h : OBW base w v s) (hc : Ch6 M w w') (hm : ∀ m ∈ M, m.cls < base) : OBW base w' v s := by
  obtain ⟨us, hl, hu, ho⟩ := h
  exact ⟨us, hl, fun i u b h1 h2 => ⟨(hu i u b h1 h2).1.ch6 hc hm, (hu i u b h1 h2).2⟩, own_ch6 ho hc hm⟩

theorem MapV.ch6 {w w' : World} {b : Nat} {L : List (Int × Value)} {M : List Nm} (h : MapV w b L) (hc : Ch6 M w w') (hm : ∀ m ∈ M, m.cls ≠ b) : MapV w' b L := h.same (hc.block b h.lt hm)

/-- What risingBinds answers. -/
def RiseO (g : Int → Option (List Int)) (ys : List Int) (base : Nat) (wB : World) (e : Ending) (w' : World) : Prop :=
  Below wB.heap.size wB w' ∧ ((riseE g ys = 2 ∧ e = .returned (.tuple #[.slice none 0 0, .int .i64 2])) ∨ (riseE g ys = 0 ∧ ∃ v, e = .returned (.tuple #[v, .int .i64 0]) ∧ OBW base w' v (riseL g ys)))

set_option maxRecDepth 100000 in
set_option maxHeartbeats 6400000 in
theorem uRise_any {sig : List Sy} (har : ArOk sig) (hsl : sig.length ≤ 9223372036854775807) {wB w : World} {a b : List Int} {M : List Nm} {L : List (Int × Value)} {ra rb T : Nat} {into : Nat → Option Nat} {face root rk : Nat → Nat} {cnt : Nat → Int} (h2 : Two6 sig a b M L ra rb) (h : Slvd sig wB w a b M L ra rb T into face root rk cnt) (hB : Below wB.heap.size wB w) (hl : L.length ≤ 8388608) :
    Calls Tryd.prog 24 #[.map (some wB.heap.size)] w (RiseO (gB M root face) (keyS L) w.heap.size wB) := by
  have HV : Hid (∀ (n : Int) (v : Value), L.lookup n = some v → ∃ i m mr t, M[i]? = some m ∧ m.nd = .var n ∧ v = .pointer (some ⟨m.blk, 0, none⟩) ∧ M[root i]? = some mr ∧ root (root i) = root i ∧ face (root i) < M.length ∧ TmC (M.map (·.nd)) root face (root i) t ∧ cnt (root i) = cutL t.length ∧ piece (gB M root face) (-1 - n) = t ∧ (0 ≤ n ∧ n < 1048576) ∧
      (match (M[face (root i)]?).map Nm.nd with | some (.var k) => decide (k = n) | _ => false) = decide (t = [-1 - n])) := fun n v hn => var_at h2 h hn
  obtain ⟨g, hg⟩ : ∃ g, gB M root face = g := ⟨_, rfl⟩
  rw [hg] at HV ⊢
  obtain ⟨ys, hys⟩ : ∃ ys, keyS L = ys := ⟨_, rfl⟩
  rw [hys]
  have HYs := hid hys
  have HYm : Hid (∀ x ∈ ys, (L.lookup x).isSome = true) := fun x hx => (keyS_mem L x).1 (by rw [hys]; exact hx)
  have hyl : ys.length ≤ 8388608 := by
    rw [← hys]
    unfold keyS
    rw [List.length_mergeSort]
    have : ∀ L : List (Int × Value), (keyL L).length ≤ L.length := fun L => by
      induction L with
      | nil => simp [keyL]
      | cons p L ih => unfold keyL; split <;> simp <;> omega
    have := this L
    omega
  have HOk := hid h2.ok
  have HCo := hid h.ok
  have HM0 := hid h.map
  have HBd0 := hid h.bd
  have HFr0 := hid h.fr
  have HT0 : Hid (T ≤ w.heap.size) := h.top
  have HB0 := hid hB
  have HCl : Hid (∀ m ∈ M, wB.heap.size + 1 ≤ m.cls ∧ m.cls < w.heap.size) := fun m hm => by have h8 := (h.bd.low m hm).1; have h9 := h.top; omega
  have HCn : Hid (∀ m ∈ M, m.cls ≠ wB.heap.size) := fun m hm => by have := HCl.out m hm; omega
  have HCb : Hid (∀ m ∈ M, m.cls < w.heap.size) := fun m hm => (HCl.out m hm).2
  have HCg : Hid (∀ m ∈ M, wB.heap.size ≤ m.cls) := fun m hm => by have := HCl.out m hm; omega
  have HHar := hid har
  have HWB : Hid (wB.heap.size < w.heap.size) := h.map.lt
  have HTw : Hid (T ≤ w.heap.size) := h.top
  clear h h2 hB hg hys
  go_enter Tryd.func24, Tryd.ntmps24
  go_wp2_with fail
  refine (keys6_any wB.heap.size w).mono ?_
  rintro e w1 ⟨rfl, hw1⟩
  subst hw1
  go_wp2_with fail
  refine (sorted6_any wB.heap.size L w HM0.out (by omega)).mono ?_
  rintro e w2 ⟨v2, rfl, ho2, hb2⟩
  rw [HYs.out] at ho2
  obtain ⟨ao, cap, hv2, hc1, hc2⟩ := ho2.shape
  subst hv2
  unfold maxLen at hc2
  have HO2 := hid ho2
  have HM2 := hid (HM0.out.later hb2)
  have HBd2 := hid (HBd0.out.later hb2)
  have HT2 : Hid (T ≤ w2.heap.size) := Nat.le_trans HT0.out hb2.size
  have HB2 : Hid (Below wB.heap.size wB w2) := below_step HB0.out hb2
  have HS2 : Hid (w.heap.size ≤ w2.heap.size) := hb2.size
  clear ho2 hb2 HM0 HBd0 HB0 HT0 HYs
  go_wp2
  go_loopw [4, 12] (fun x i wr => ∃ (k : Nat) (into' : Nat → Option Nat), k ≤ ys.length ∧ i = .int .i64 k ∧ (ys.take k).any (bigB g) = false ∧ OBW w.heap.size wr x (riseL g (ys.take k)) ∧ OwI wr w.heap.size (.slice ao ys.length cap) ys ∧ MapV wr wB.heap.size L ∧ Bd6 wr (wB.heap.size + 1) T M into' face cnt ∧ Fr6 M.length into' root rk ∧ T ≤ wr.heap.size ∧ w.heap.size ≤ wr.heap.size ∧ Below wB.heap.size wB wr) (fun _ i _ => ys.length - (intOf i).toNat)
  case atStart => exact ⟨0, into, Nat.zero_le _, rfl, rfl, OBW.nil _ _, HO2.out, HM2.out, HBd2.out, HFr0.out, HT2.out, HS2.out, HB2.out⟩
  case round =>
    obtain ⟨k, into', hk, rfl, hbig, hob, hov, hmr, hbd, hfr, hT, hS, hbr⟩ := hrel
    clear HO2 HM2 HBd2 HT2 HB2 HFr0 HS2
    by_cases hlt : k < ys.length
    · obtain ⟨g0, off, n, rfl, hyk, hcy, hy1, hy2⟩ := hov.is.at hlt
      obtain ⟨v, hlk⟩ := Option.isSome_iff_exists.1 (HYm.out n (List.mem_of_getElem? hyk))
      obtain ⟨i, m, mr, t, hm, hn, rfl, hmr', hrr, hfl, ht, hct, hpc, hnum, hkp⟩ := HV.out n v hlk
      have HRl := hid (hmr.lookOne under_vars6 (zero_uvar6 wr) hy1 hy2 hlk)
      have HYk := hid hyk
      have HBig := hid hbig
      have HOb := hid hob
      have HOv := hid hov
      have HMr := hid hmr
      have HBr := hid hbr
      have HCls := hid (varClass_any hbd hfr hm hn)
      have HTm := hid ht
      have HCt := hid hct
      have HPc := hid hpc
      have HKp := hid hkp
      have HT := hid hT
      have HS := hid hS
      have HMm := hid hmr'
      have HRr := hid hrr
      have HFl := hid hfl
      clear hyk hbig hob hov hmr hbr hbd hfr hm hn hmr' hrr hfl ht hct hpc hkp hlk hT hS
      go_wp2_with (first
        | fail
        | (at_lookup; refine wpList_lookup_run rfl _ _ _ _ rfl _ _ _ rfl rfl HRl.out ?_))
      clear HRl
      refine HCls.out.mono ?_
      rintro e w3 ⟨into3, rfl, _, hbd3, hfr3, hch3⟩
      rw [clV_eq HMm.out]
      have HBd3 := hid hbd3
      have HFr3 := hid hfr3
      have HOb3 := hid (HOb.out.ch6 hch3 HCb.out)
      have HOv3 := hid (HOv.out.ch6 hch3 HCb.out)
      have HMr3 := hid (HMr.out.ch6 hch3 HCn.out)
      have HBr3 : Hid (Below wB.heap.size wB w3) := hch3.below HCg.out HBr.out.size HBr.out
      have HT3 : Hid (T ≤ w3.heap.size) := Nat.le_trans HT.out hch3.size
      have HS3 : Hid (w.heap.size ≤ w3.heap.size) := Nat.le_trans HS.out hch3.size
      clear hbd3 hfr3 hch3 HOb HOv HMr HBr HT HS HCls
      go_wp2_with fail
      refine (is_any HBd3.out HMm.out HFl.out n).mono ?_
      rintro e w4 ⟨he4, hw4⟩
      obtain rfl : w3 = w4 := hw4.symm
      obtain rfl : e = .returned (.bool (decide (t = [-1 - n]))) := he4.trans (congrArg (fun x => Ending.returned (.bool x)) HKp.out)
      clear he4
      obtain ⟨k9, _, _, _, _, hcc⟩ := HBd3.out.clc HMm.out
      rw [HCt.out] at hcc
      by_cases hke : t = [-1 - n]
      · have hkd : decide (t = [-1 - n]) = true := by simp [hke]
        have HKB : Hid (keptB g n = true) := by unfold keptB; rw [HPc.out]; exact hkd
        rw [hkd]
        have HN : Hid ((ys.take (k + 1)).any (bigB g) = false) := big_step HYk.out HBig.out (by unfold bigB; rw [HKB.out]; rfl)
        have HL2 : Hid (riseL g (ys.take (k + 1)) = riseL g (ys.take k)) := riseL_kept HYk.out HKB.out
        clear hkd hke
        go_wp2
        go_roundw
        case rel => exact ⟨k + 1, into3, hlt, by go_num, HN.out, by rw [HL2.out]; exact HOb3.out, HOv3.out, HMr3.out, HBd3.out, HFr3.out, HT3.out, HS3.out, HBr3.out⟩
        case measure => simp only [intOf]; omega
      · have hkd : decide (t = [-1 - n]) = false := by simp [hke]
        have HKB : Hid (keptB g n = false) := by unfold keptB; rw [HPc.out]; exact hkd
        rw [hkd]
        by_cases hbg : 512 < t.length
        · have hcu : cutL t.length = 513 := by unfold cutL; rw [if_neg (by omega)]
          rw [hcu] at hcc
          have HE : Hid (riseE g ys = 2) := big_here HYk.out (by unfold bigB; rw [HKB.out, HPc.out]; simp; exact hbg)
          clear hkd hke hcu hbg
          go_wp2
          go_ret2
          exact ⟨HBr3.out, .inl ⟨HE.out, rfl⟩⟩
        · have hcu : cutL t.length = (t.length : Int) := by unfold cutL; rw [if_pos (by omega)]
          rw [hcu] at hcc
          have htl : t.length ≤ 512 := by omega
          have hnb : ¬ 512 < (t.length : Int) := by omega
          have HN : Hid ((ys.take (k + 1)).any (bigB g) = false) := big_step HYk.out HBig.out (by unfold bigB; rw [HKB.out, HPc.out]; simp; exact htl)
          have HL2 : Hid (riseL g (ys.take (k + 1)) = riseL g (ys.take k) ++ [(n, t)]) := by rw [← HPc.out]; exact riseL_step HYk.out HKB.out
          have HLn : Hid ((riseL g (ys.take k)).length ≤ k) := Nat.le_trans (riseL_len g _) (by rw [List.length_take]; omega)
          have HRow := hid (uRow_any HHar.out hsl HOk.out HCo.out HT3.out HBd3.out HFr3.out HMm.out HRr.out HTm.out htl)
          clear hkd hke hcu hbg
          go_wp2_with fail
          refine HRow.out.mono ?_
          rintro e w5 ⟨v5, into5, rfl, ho5, hbd5, hfr5, hch5⟩
          obtain ⟨a5, c5, hv5, _⟩ := ho5.shape
          subst hv5
          obtain ⟨v6, w6, hr6, ho6, hg6, hj6⟩ := OBW.snoc 25 (x := n) (t := t) (HOb3.out.ch6 hch5 HCb.out) (Nat.le_trans HS3.out hch5.size) ⟨ho5.mono HS3.out, hy1, hy2, by show t.length * 8 ≤ 140737488351232; omega⟩ (by have := HLn.out; omega)
          have HR6 := hid hr6
          have HO6 := hid ho6
          have hba := below_alloc (w := w5) (.cells #[.int .i64 n, .slice a5 t.length c5] 31)
          have hB5 : Below wB.heap.size wB w5 := hch5.below HCg.out HBr3.out.size HBr3.out
          have hBa := below_step hB5 hba
          have hsz5 : w.heap.size ≤ w5.heap.size := Nat.le_trans HS3.out hch5.size
          have HB6 : Hid (Below wB.heap.size wB w6) := hBa.grown hg6 hBa.size (fun j hj => by have h8 := (hj6 j hj).1; have h9 := HWB.out; omega)
          have HOv6 : Hid (OwI w6 w.heap.size (.slice (some ⟨g0, off, none⟩) ys.length cap) ys) := ((HOv3.out.ch6 hch5 HCb.out).later hba).kept hg6 (by
            obtain ⟨us9, _, _, h9⟩ := HOb3.out
            exact ownsRow_apart HOv3.out.2 h9 (by decide))
          have HM6 : Hid (MapV w6 wB.heap.size L) := ((HMr3.out.ch6 hch5 HCn.out).later hba).kept hg6 (fun h => by have h8 := (hj6 _ h).1; have h9 := HWB.out; omega)
          have HBd6 : Hid (Bd6 w6 (wB.heap.size + 1) T M into5 face cnt) := (hbd5.later hba).keep (fun b hb => hg6.block b (by have := hba.size; have := HTw.out; omega) (fun e9 => by have h8 := (hj6 b e9.symm).1; have h9 := HTw.out; omega))
          have HFr6 := hid hfr5
          have HT6 : Hid (T ≤ w6.heap.size) := by have h7 := hg6.size; have h8 := hba.size; have h9 := HTw.out; show T ≤ w6.heap.size; omega
          have HS6 : Hid (w.heap.size ≤ w6.heap.size) := by have h7 := hg6.size; have h8 := hba.size; show w.heap.size ≤ w6.heap.size; omega
          clear hr6 ho6 hg6 hj6 hba hBa hB5 ho5 hbd5 hfr5 hch5 hcc HOb3 HOv3 HMr3 HBd3 HFr3 HBr3 hsz5 HRow
          go_wp2_with (first
            | (at_builtin; refine wpList_append_run rfl _ _ _ rfl _ _ rfl rfl HR6.out ?_))
          go_roundw
          case rel => exact ⟨k + 1, into5, hlt, by go_num, HN.out, by rw [HL2.out]; exact HO6.out, HOv6.out, HM6.out, HBd6.out, HFr6.out, HT6.out, HS6.out, HB6.out⟩
          case measure => simp only [intOf]; omega
    · have HF : Hid (ys.take k = ys) := List.take_of_length_le (by omega)
      have HOb := hid hob
      have HBr := hid hbr
      have HE : Hid (riseE g ys = 0) := by unfold riseE; rw [HF.out] at hbig; rw [hbig]; rfl
      clear hob hov hmr hbr hbd hfr hbig
      go_wp2
      go_ret2
      exact ⟨HBr.out, .inr ⟨HE.out, _, rfl, by have h9 := HOb.out; rw [HF.out] at h9; exact h9⟩⟩

end Go.Proofs.YtelacmijkbgliaaDoor

/- The most general binds as a function of the two terms. -/
namespace Go.Proofs.YtelacmijkbgliaaDoor
open Go.RowKit Go.Maps

/-- Binds that make two terms one, most general, keeping the least variables. -/
structure Mg (sig : List Sy) (a b : List Int) (g : Int → Option (List Int)) : Prop where
  right : ∀ n u, g n = some u → rowE sig u = 0
  one : laidL g a = laidL g b
  gen : ∀ f : Int → Option (List Int), (∀ n u, f n = some u → rowE sig u = 0) → laidL f a = laidL f b → ∀ t, laidL f (laidL g t) = laidL f t
  least : Least g

theorem Mg.unique {sig : List Sy} {a b : List Int} {g g' : Int → Option (List Int)} (h : Mg sig a b g) (h' : Mg sig a b g') (c : Int) : piece g' c = piece g c :=
  mgu_one (piece_ne h.right) (piece_ne h'.right) (h'.gen g h.right h.one) (h.gen g' h'.right h'.one) (h.gen g h.right h.one) h.least h'.least c

theorem mg_of {sig : List Sy} (ha : ArOk sig) {M : List Nm} {a b : List Int} {ra rb : Nat} {root face : Nat → Nat} (hL : NdOk sig (M.map (·.nd))) (hta : TmC (M.map (·.nd)) id id ra a) (htb : TmC (M.map (·.nd)) id id rb b) (h : Sol6 sig (M.map (·.nd)) root face ra rb) : Mg sig a b (gB M root face) := by
  obtain ⟨h1, h2, h3, h4⟩ := unif_yes ha hL hta htb h
  exact ⟨h1, h2.trans (h4.trans h3.symm), fun f hf he => unif_general ha hL hta htb h hf he, least_of hL h⟩

open Classical in
noncomputable def mgG (sig : List Sy) (a b : List Int) : Int → Option (List Int) := if h : ∃ g, Mg sig a b g then Classical.choose h else fun _ => none

theorem mgG_mg {sig : List Sy} {a b : List Int} {g : Int → Option (List Int)} (h : Mg sig a b g) : Mg sig a b (mgG sig a b) := by
  have h9 : ∃ g, Mg sig a b g := ⟨g, h⟩
  unfold mgG
  rw [dif_pos h9]
  exact Classical.choose_spec h9

theorem mgG_piece {sig : List Sy} {a b : List Int} {g : Int → Option (List Int)} (h : Mg sig a b g) (c : Int) : piece (mgG sig a b) c = piece g c := h.unique (mgG_mg h) c

theorem keptB_congr {g g' : Int → Option (List Int)} (h : ∀ c, piece g c = piece g' c) (n : Int) : keptB g n = keptB g' n := by unfold keptB; rw [h]

theorem riseE_congr {g g' : Int → Option (List Int)} (h : ∀ c, piece g c = piece g' c) (ys : List Int) : riseE g ys = riseE g' ys := by
  have : bigB g = bigB g' := by
    funext n
    unfold bigB
    rw [keptB_congr h, h]
  unfold riseE
  rw [this]

theorem riseL_congr {g g' : Int → Option (List Int)} (h : ∀ c, piece g c = piece g' c) (ys : List Int) : riseL g ys = riseL g' ys := by
  unfold riseL
  have e1 : (fun n => !keptB g n) = fun n => !keptB g' n := by funext n; rw [keptB_congr h]
  have e2 : (fun n => (n, piece g (-1 - n))) = fun n => (n, piece g' (-1 - n)) := by funext n; rw [h]
  rw [e1, e2]

/-! The variables. -/

def varL (t : List Int) : List Int := (t.filter fun c => decide (c < 0)).map fun c => -1 - c

theorem varL_mem (t : List Int) (n : Int) : n ∈ varL t ↔ 0 ≤ n ∧ -1 - n ∈ t := by
  unfold varL
  rw [List.mem_map]
  constructor
  · rintro ⟨c, hc, rfl⟩
    rw [List.mem_filter] at hc
    have := of_decide_eq_true hc.2
    exact ⟨by omega, by rw [show -1 - (-1 - c) = c by omega]; exact hc.1⟩
  · rintro ⟨h0, hm⟩
    exact ⟨-1 - n, List.mem_filter.2 ⟨hm, decide_eq_true (by omega)⟩, by omega⟩

theorem look_const : ∀ (xs : List Int) (n : Int), ((xs.map fun x => (x, Value.bool true)).lookup n).isSome = true ↔ n ∈ xs
  | [], n => by simp
  | x :: xs, n => by
    rw [List.map_cons, List.lookup_cons, List.mem_cons]
    by_cases e : n = x
    · subst e; simp
    · have e2 : (n == x) = false := by simpa using e
      rw [e2]
      simp only
      rw [look_const xs n]
      exact ⟨.inr, fun h => h.resolve_left e⟩

/-- The variables of both terms, in rising order. -/
def ysV (a b : List Int) : List Int := keyS ((varL a ++ varL b).map fun x => (x, Value.bool true))

theorem keyS_eq {L L' : List (Int × Value)} (h : ∀ x, (L.lookup x).isSome = true ↔ (L'.lookup x).isSome = true) : keyS L = keyS L' := by
  unfold keyS
  refine mergeSort_of_perm_i ?_
  rw [List.perm_ext_iff_of_nodup (keyL_nodup L) (keyL_nodup L')]
  intro x
  rw [keyL_mem, keyL_mem]
  exact h x

theorem ysV_mem (a b : List Int) (n : Int) : n ∈ ysV a b ↔ 0 ≤ n ∧ (-1 - n ∈ a ∨ -1 - n ∈ b) := by
  unfold ysV
  rw [keyS_mem, look_const, List.mem_append, varL_mem, varL_mem]
  constructor
  · rintro (h | h)
    · exact ⟨h.1, .inl h.2⟩
    · exact ⟨h.1, .inr h.2⟩
  · rintro ⟨h0, h | h⟩
    · exact .inl ⟨h0, h⟩
    · exact .inr ⟨h0, h⟩

theorem bel_in {L : List Nd} {r x : Nat} {a : List Int} (ht : TmC L id id r a) (h : Bel L r x) : ∃ u, TmC L id id x u ∧ ∀ c ∈ u, c ∈ a := by
  induction h with
  | here => exact ⟨a, ht, fun _ h => h⟩
  | arg h hx hy ih =>
    obtain ⟨u, hu, hs⟩ := ih
    cases hu with
    | var h9 => simp only [id_eq] at h9; rw [hx] at h9; cases h9
    | app h9 hl ht9 =>
      rename_i s' zs ts
      simp only [id_eq] at h9
      rw [hx] at h9
      cases h9
      obtain ⟨k, hk⟩ := List.getElem?_of_mem hy
      have hkl := (List.getElem?_eq_some_iff.1 hk).1
      have hk' : ts[k]? = some ts[k] := List.getElem?_eq_getElem (by omega)
      refine ⟨ts[k], ht9 k _ _ hk hk', fun c hc => hs c (List.mem_cons_of_mem _ ?_)⟩
      exact List.mem_flatten.2 ⟨ts[k], List.getElem_mem _, hc⟩

theorem key_iff {sig : List Sy} {a b : List Int} {M : List Nm} {L : List (Int × Value)} {ra rb : Nat} (h2 : Two6 sig a b M L ra rb) : keyS L = ysV a b := by
  unfold ysV
  refine keyS_eq (fun n => ?_)
  rw [look_const, List.mem_append, varL_mem, varL_mem]
  constructor
  · intro h
    obtain ⟨v, hv⟩ := Option.isSome_iff_exists.1 h
    obtain ⟨i, m, hm, hn, _⟩ := (h2.vm n v).1 hv
    have hi := (List.getElem?_eq_some_iff.1 hm).1
    have hLi : (M.map (·.nd))[i]? = some (Nd.var n) := by rw [List.getElem?_map, hm]; simp [hn]
    have hnum := h2.ok.num i n hLi
    have key : ∀ (r : Nat) (t : List Int), TmC (M.map (·.nd)) id id r t → Bel (M.map (·.nd)) r i → -1 - n ∈ t := fun r t ht hb => by
      obtain ⟨u, hu, hs⟩ := bel_in ht hb
      have := tmC_one hu _ (TmC.var (root := id) (face := id) (c := i) (by exact hLi))
      rw [this] at hs
      exact hs _ (List.mem_singleton.2 rfl)
    rcases h2.cov i hi with h9 | h9
    · exact .inl ⟨hnum.1, key ra a h2.ta h9⟩
    · exact .inr ⟨hnum.1, key rb b h2.tb h9⟩
  · intro h
    have key : ∀ (r : Nat) (t : List Int), TmC (M.map (·.nd)) id id r t → 0 ≤ n → -1 - n ∈ t → (L.lookup n).isSome = true := fun r t ht h0 hm => by
      obtain ⟨j, hj⟩ := tmC_vars h2.ok ht _ hm (by omega)
      rw [show -1 - (-1 - n) = n by omega, List.getElem?_map] at hj
      cases hmj : M[j]? with
      | none => rw [hmj] at hj; cases hj
      | some m =>
        rw [hmj] at hj
        simp only [Option.map_some, Option.some.injEq] at hj
        rw [(h2.vm n _).2 ⟨j, m, hmj, hj, rfl⟩]
        rfl
    rcases h with h | h
    · exact key ra a h2.ta h.1 h.2
    · exact key rb b h2.tb h.1 h.2

theorem nodup_len : ∀ {l l' : List Int}, l.Nodup → (∀ x ∈ l, x ∈ l') → l.length ≤ l'.length
  | [], _, _, _ => Nat.zero_le _
  | x :: l, l', h, hs => by
    rw [List.nodup_cons] at h
    have hx := hs x (List.mem_cons_self ..)
    have ih := nodup_len (l := l) (l' := l'.erase x) h.2 (fun y hy => by
      have hne : y ≠ x := fun e => h.1 (e ▸ hy)
      exact (List.mem_erase_of_ne hne).2 (hs y (List.mem_cons_of_mem _ hy)))
    rw [List.length_erase_of_mem hx] at ih
    have := List.length_pos_of_mem hx
    rw [List.length_cons]
    omega

theorem size_keys (D : DataW Value) : (intKeys D).length = Maps.size D := by
  cases D <;> simp [intKeys, Maps.size]

theorem few_keys {w : World} {b : Nat} {sig : List Sy} {a b' : List Int} {M : List Nm} {L : List (Int × Value)} {ra rb : Nat} (h : MapV w b L) (h2 : Two6 sig a b' M L ra rb) : L.length ≤ a.length + b'.length := by
  obtain ⟨D, h1, hsz, hk⟩ := h.keys
  have e := (hk (intKeys D) (List.Perm.refl _)).2
  rw [size_keys, hsz] at e
  rw [e]
  unfold keyS
  rw [List.length_mergeSort]
  have hle : (keyL L).length ≤ (M.map (fun m => match m.nd with | .var n => n | _ => 0)).length := nodup_len (keyL_nodup L) (fun x hx => by
    obtain ⟨v, hv⟩ := Option.isSome_iff_exists.1 ((keyL_mem L x).1 hx)
    obtain ⟨i, m, hm, hn, _⟩ := (h2.vm x v).1 hv
    refine List.mem_map.2 ⟨m, List.mem_of_getElem? hm, ?_⟩
    simp [hn])
  rw [List.length_map] at hle
  exact Nat.le_trans hle h2.few

open Classical in
/-- The error that Unify answers. -/
noncomputable def uniE (sig : List Sy) (a b : List Int) : Int := if twoE sig a b ≠ 0 then twoE sig a b else if ¬ Unif sig a b then 60 else riseE (mgG sig a b) (ysV a b)

open Classical in
/-- The binds that Unify answers. -/
noncomputable def uniL (sig : List Sy) (a b : List Int) : List Bd := if uniE sig a b = 0 then riseL (mgG sig a b) (ysV a b) else []

theorem uniE_two {sig : List Sy} {a b : List Int} (h : twoE sig a b ≠ 0) : uniE sig a b = twoE sig a b ∧ uniL sig a b = [] := by
  have e : uniE sig a b = twoE sig a b := by unfold uniE; rw [if_pos h]
  exact ⟨e, by unfold uniL; rw [if_neg (by rw [e]; exact h)]⟩

theorem uniE_no {sig : List Sy} {a b : List Int} (h : twoE sig a b = 0) (hu : ¬ Unif sig a b) : uniE sig a b = 60 ∧ uniL sig a b = [] := by
  have e : uniE sig a b = 60 := by unfold uniE; rw [if_neg (by simpa using h), if_pos hu]
  exact ⟨e, by unfold uniL; rw [if_neg (by rw [e]; decide)]⟩

theorem uniE_yes {sig : List Sy} {a b : List Int} (h : twoE sig a b = 0) {g : Int → Option (List Int)} (hg : Mg sig a b g) : uniE sig a b = riseE g (ysV a b) ∧ (uniE sig a b = 0 → uniL sig a b = riseL g (ysV a b)) ∧ (uniE sig a b ≠ 0 → uniL sig a b = []) := by
  have hu : Unif sig a b := ⟨g, hg.right, hg.one⟩
  have e : uniE sig a b = riseE g (ysV a b) := by
    unfold uniE
    rw [if_neg (by simpa using h), if_neg (by simpa using hu)]
    exact riseE_congr (mgG_piece hg) _
  refine ⟨e, fun h0 => ?_, fun h0 => ?_⟩
  · unfold uniL
    rw [if_pos h0]
    exact riseL_congr (mgG_piece hg) _
  · unfold uniL
    rw [if_neg h0]

end Go.Proofs.YtelacmijkbgliaaDoor

/- The binding of a solved board is most general and keeps the least variables. -/
namespace Go.Proofs.YtelacmijkbgliaaDoor
open Go.RowKit

/-- What f makes of the places' terms. -/
noncomputable def valF (f : Int → Option (List Int)) (X : List Int) (K : List (List Nat)) (i : Nat) : List Int := laidL f (tB X K i)

theorem valF_ok {sig : List Sy} (ha : ArOk sig) {X : List Int} {K : List (List Nat)} (hB : BOk6 sig X K) {f : Int → Option (List Int)} (hf : ∀ n u, f n = some u → rowE sig u = 0) : ValB sig X K (valF f X K) := by
  have hT : ∀ i, i < X.length → TmB X K i (tB X K i) := fun i hi => by
    obtain ⟨t, ht⟩ := tmB_all hB (X.length - i + 1) i (by omega) hi
    rw [tB_eq ht]
    exact ht
  refine ⟨fun i hi => row_laid ha hf (tmB_right ha hB (hT i hi)), fun i c ks hx hk hc => ?_, fun i j c hc hi hj => ?_⟩
  · have hil := (List.getElem?_eq_some_iff.1 hx).1
    show laidL f (tB X K i) = _
    have h9 : TmB X K i (c :: (ks.map (tB X K)).flatten) := .app hx hc hk (by rw [List.length_map]) (fun k x t h1 h2 => by
      rw [List.getElem?_map, h1, Option.map_some, Option.some.injEq] at h2
      rw [← h2]
      exact hT x (hB.lt i ks hk x (List.mem_of_getElem? h1)).2)
    rw [tB_eq h9, laid_sym hc, laid_flat, List.map_map]
    rfl
  · show laidL f (tB X K i) = laidL f (tB X K j)
    rw [tB_eq (TmB.var hi hc), tB_eq (TmB.var hj hc)]

/-- Whatever solves goes through the classes' terms. -/
theorem valF_class {sig : List Sy} {X : List Int} {K : List (List Nat)} {C : List Nat} {ra rb : Nat} (hB : BOk6 sig X K) (hC : ClB X C) (hj : JnB sig X K C ra rb) {f : Int → Option (List Int)} (hV : ValB sig X K (valF f X K)) (he : valF f X K ra = valF f X K rb) {c : Nat} {t : List Int} (h : TmK X K C c t) : C[c]? = some c → ∀ i, C[i]? = some c → laidL f t = valF f X K i := by
  induction h with
  | var hn =>
    rename_i c
    intro hid i hi
    obtain ⟨j, hj1, hj2, hj3, _⟩ := lstB_of hC hid hn
    have hjl := (List.getElem?_eq_some_iff.1 hj1).1
    have hil : i < X.length := by rw [← hC.len]; exact (List.getElem?_eq_some_iff.1 hi).1
    rw [hj _ hV he i j hil hjl (by rw [hi, hj2])]
    show _ = laidL f (tB X K j)
    rw [tB_eq (TmB.var hj1 hj3)]
  | app hh hx hk hl ht ih =>
    rename_i c h s ks ts
    intro hid i hi
    obtain ⟨hhl, hhc, d, hd1, hd2⟩ := headB_some hh
    rw [hx] at hd1
    cases hd1
    have hil : i < X.length := by rw [← hC.len]; exact (List.getElem?_eq_some_iff.1 hi).1
    rw [hj _ hV he i h hil hhl (by rw [hi, hhc]), hV.2.1 h s ks hx hk hd2, laid_sym hd2, laid_flat]
    congr 2
    refine (map_of (by rw [List.length_map, hl]) fun k x y h1 h2 => ?_).symm
    rw [List.getElem?_map] at h2
    cases h3 : ts[k]? with
    | none => rw [h3] at h2; cases h2
    | some u =>
      rw [h3, Option.map_some, Option.some.injEq] at h2
      have hxl := (hB.lt h ks hk x (List.mem_of_getElem? h1)).2
      have hxc : C[x]? = some (C[x]'(by rw [hC.len]; exact hxl)) := List.getElem?_eq_getElem _
      rw [← h2]
      exact (ih k x _ u h1 hxc h3 (hC.id x _ hxc).2 x hxc).symm

theorem mg_brd {sig : List Sy} (ha : ArOk sig) {X : List Int} {K : List (List Nat)} {C : List Nat} {ra rb : Nat} (hB : BOk6 sig X K) (h : SolB sig X K C ra rb) {a b : List Int} (hta : TmB X K ra a) (htb : TmB X K rb b) : Mg sig a b (gB6 X K C) := by
  refine ⟨gB6_right ha hB h, ?_, fun f hf he t => ?_, fun c d hc hd hp => ?_⟩
  · rw [solB_laid hB h hta, solB_laid hB h htb]
    have hal : ra < C.length := by rw [h.ok.len]; exact tmB_lt hta
    have hca : C[ra]? = some C[ra] := List.getElem?_eq_getElem hal
    obtain ⟨t, ht⟩ := h.tm ra _ hca
    rw [tK_eq hB h.ok hca ht, tK_eq hB h.ok (by rw [← h.one]; exact hca) ht]
  · have hV := valF_ok ha hB hf
    have heq : valF f X K ra = valF f X K rb := by
      show laidL f (tB X K ra) = laidL f (tB X K rb)
      rw [tB_eq hta, tB_eq htb]
      exact he
    induction t with
    | nil => rfl
    | cons c t ih =>
      rw [laidL_cons, laidL_cons]
      have app : ∀ (x y : List Int), laidL f (x ++ y) = laidL f x ++ laidL f y := fun x y => by unfold laidL; rw [List.flatMap_append]
      rw [app, ih]
      congr 1
      by_cases hc : c < 0
      · by_cases hx : ∃ i : Nat, X[i]? = some c
        · obtain ⟨i, hi⟩ := hx
          have hil : i < C.length := by rw [h.ok.len]; exact (List.getElem?_eq_some_iff.1 hi).1
          have hci : C[i]? = some C[i] := List.getElem?_eq_getElem hil
          obtain ⟨u, hu⟩ := h.tm i _ hci
          have hg : gB6 X K C (-1 - c) = some (tK X K C i) := gB6_eq hB h (i := i) (n := -1 - c) (by rw [hi]; congr 1; omega) (by omega)
          unfold piece
          rw [if_pos hc, if_pos hc, hg, Option.getD_some, tK_eq hB h.ok hci hu, valF_class hB h.ok h.jn hV heq hu (h.ok.id _ _ hci).2 i hci]
          show laidL f (tB X K i) = _
          rw [tB_eq (TmB.var hi hc)]
          unfold laidL piece
          simp [hc]
        · have hg : gB6 X K C (-1 - c) = none := by
            unfold gB6
            rw [dif_neg]
            rintro ⟨i, hi, _⟩
            exact hx ⟨i, by rw [hi]; congr 1; omega⟩
          unfold piece
          rw [if_pos hc, if_pos hc, hg]
          unfold laidL piece
          simp [hc]
      · unfold piece
        rw [if_neg hc, if_neg hc]
        unfold laidL piece
        simp [hc]
  · unfold piece at hp
    rw [if_pos hc] at hp
    by_cases hx : ∃ i : Nat, X[i]? = some c
    · obtain ⟨i, hi⟩ := hx
      have hil : i < C.length := by rw [h.ok.len]; exact (List.getElem?_eq_some_iff.1 hi).1
      have hci : C[i]? = some C[i] := List.getElem?_eq_getElem hil
      obtain ⟨u, hu⟩ := h.tm i _ hci
      have hg : gB6 X K C (-1 - c) = some (tK X K C i) := gB6_eq hB h (i := i) (n := -1 - c) (by rw [hi]; congr 1; omega) (by omega)
      rw [hg, Option.getD_some, tK_eq hB h.ok hci hu] at hp
      cases hu with
      | var hn =>
        obtain ⟨j, _, _, _, hmax⟩ := lstB_of h.ok (h.ok.id _ _ hci).2 hn
        simp only [List.cons.injEq, and_true] at hp
        rw [← hp]
        exact hmax i c hi hc hci
      | app hh hxx hk hl ht =>
        simp only [List.cons.injEq] at hp
        obtain ⟨_, _, s', hs', hs''⟩ := headB_some hh
        rw [hxx] at hs'
        cases hs'
        omega
    · have hg : gB6 X K C (-1 - c) = none := by
        unfold gB6
        rw [dif_neg]
        rintro ⟨i, hi, _⟩
        exact hx ⟨i, by rw [hi]; congr 1; omega⟩
      rw [hg, Option.getD_none] at hp
      simp only [List.cons.injEq, and_true] at hp
      omega

/-- What the binding of a class tells of a variable: whether it is kept, how great its term is. -/
theorem gB6_piece {sig : List Sy} {X : List Int} {K : List (List Nat)} {C : List Nat} {ra rb : Nat} (hB : BOk6 sig X K) (h : SolB sig X K C ra rb) {i c : Nat} {x : Int} {t : List Int} (hi : X[i]? = some x) (hx : x < 0) (hc : C[i]? = some c) (ht : TmK X K C c t) : piece (gB6 X K C) x = t ∧ (keptB (gB6 X K C) (-1 - x) = true ↔ headB X C c = none ∧ lstB X C c = x) := by
  have hg : gB6 X K C (-1 - x) = some (tK X K C i) := gB6_eq hB h (i := i) (n := -1 - x) (by rw [hi]; congr 1; omega) (by omega)
  have hp : piece (gB6 X K C) x = t := by
    unfold piece
    rw [if_pos hx, hg, Option.getD_some, tK_eq hB h.ok hc ht]
  refine ⟨hp, ?_⟩
  unfold keptB
  rw [decide_eq_true_eq, show (-1 - (-1 - x)) = x by omega, hp]
  cases ht with
  | var hn => simp [hn]
  | app hh hxx hk hl ht' =>
    obtain ⟨_, _, s', hs', hs''⟩ := headB_some hh
    rw [hxx] at hs'
    cases hs'
    constructor
    · intro h9
      simp only [List.cons.injEq] at h9
      omega
    · rintro ⟨h9, _⟩
      rw [hh] at h9
      cases h9

end Go.Proofs.YtelacmijkbgliaaDoor
