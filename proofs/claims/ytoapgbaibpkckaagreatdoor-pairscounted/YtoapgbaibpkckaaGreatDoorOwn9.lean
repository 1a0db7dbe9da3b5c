/- Texts of the proof, one behind the other. -/
import Derived.Test.YtoapgbaibpkckaaGreatDoorOwn8
import Derived.Test.YtoapgbaibpkckaaGreatDoorOwn7
/- argumentPairs of package unify walked. -/
namespace Go.Proofs.YtoapgbaibpkckaaGreatDoor
open Go.RowKit Go.Maps Go.BigFrame

/-- Pairs of nodes as values. -/
def prV (M : List Nm) (P : List (Nat × Nat)) : List (Value × Value) := P.map fun p => (ndI M p.1, ndI M p.2)

theorem prV_one {M : List Nm} {P : List (Nat × Nat)} (h : ∀ p ∈ P, p.1 < M.length ∧ p.2 < M.length) : ∀ u ∈ prC (prV M P), u.oneCell' = true := fun u hu => by
  unfold prC prV at hu
  rw [List.flatMap_map] at hu
  obtain ⟨p, hp, hu⟩ := List.mem_flatMap.1 hu
  obtain ⟨h1, h2⟩ := h p hp
  simp only [List.mem_cons, List.not_mem_nil, or_false] at hu
  rcases hu with rfl | rfl
  · obtain ⟨ty, b, e⟩ := ndI_form h1
    rw [e]
    rfl
  · obtain ⟨ty, b, e⟩ := ndI_form h2
    rw [e]
    rfl

set_option maxRecDepth 100000 in
set_option maxHeartbeats 3200000 in
theorem uArgs_any {w : World} {B T : Nat} {M : List Nm} {into : Nat → Option Nat} {face : Nat → Nat} {cnt : Nat → Int} (hb : Bd6 w B T M into face cnt) (hlow : T ≤ w.heap.size) (hwf : ∀ (i : Nat) (m : Nm) (c : Int) (xs : List Nat), M[i]? = some m → m.nd = .app c xs → (∀ x ∈ xs, x < M.length) ∧ xs.length ≤ 1000) (hsym : ∀ (i j : Nat) (m m' : Nm) (c : Int) (xs ys : List Nat), M[i]? = some m → M[j]? = some m' → m.nd = .app c xs → m'.nd = .app c ys → xs.length = ys.length)
    {a b : Nat} (ha : a < M.length) (hbl : b < M.length) :
    Calls Tryz.prog 144 #[ndI M a, ndI M b] w fun e w' => ∃ v', e = .returned (.tuple #[v', .bool (!clash (M.map Nm.nd) a b)]) ∧ (clash (M.map Nm.nd) a b = false → OwP6 w' w.heap.size v' (prV M (argP (M.map Nm.nd) a b))) ∧ Below w.heap.size w w' := by
  obtain ⟨ma, hma⟩ : ∃ m, M[a]? = some m := ⟨_, List.getElem?_eq_getElem ha⟩
  obtain ⟨mb, hmb⟩ : ∃ m, M[b]? = some m := ⟨_, List.getElem?_eq_getElem hbl⟩
  have eA : (M.map Nm.nd)[a]? = some ma.nd := by rw [List.getElem?_map, hma]; rfl
  have eB : (M.map Nm.nd)[b]? = some mb.nd := by rw [List.getElem?_map, hmb]; rfl
  obtain ⟨C, hC⟩ : ∃ C, C = clash (M.map Nm.nd) a b := ⟨_, rfl⟩
  obtain ⟨P, hP⟩ : ∃ P, P = argP (M.map Nm.nd) a b := ⟨_, rfl⟩
  rw [← hC, ← hP]
  unfold clash at hC
  unfold argP at hP
  rw [eA, eB] at hC hP
  have HIa := hid (uIsVar_any w ha)
  have HIb := hid (uIsVar_any w hbl)
  unfold isVarN at HIa HIb
  rw [hma] at HIa
  rw [hmb] at HIb
  simp only [Option.map_some] at HIa HIb
  cases hna : ma.nd with
  | var n =>
    rw [hna] at hC hP HIa
    simp only at hC hP HIa
    rw [ndI_var hma hna] at HIa ⊢
    subst hC hP
    obtain ⟨vb, hvb⟩ : ∃ v, v = ndI M b := ⟨_, rfl⟩
    rw [← hvb]
    clear hb hlow hwf hsym ha hbl hma hmb eA eB hna hvb HIb
    go_enter Tryz.func144, Tryz.ntmps144
    go_wp2_with fail
    refine HIa.out.mono ?_
    rintro e w1 ⟨rfl, hw1⟩
    have hw8 := hw1.symm
    subst hw8
    clear hw1
    go_wp2
    go_ret2
    exact ⟨_, rfl, fun _ => ⟨rfl, .inl ⟨rfl, rfl⟩⟩, Below.refl _ _⟩
  | app c xs =>
    rw [hna] at hC hP HIa
    rw [ndI_app hma hna] at HIa ⊢
    cases hnb : mb.nd with
    | var n =>
      rw [hnb] at hC hP HIb
      simp only at hC hP HIa HIb
      rw [ndI_var hmb hnb] at HIb ⊢
      subst hC hP
      clear hb hlow hwf hsym ha hbl hma hmb eA eB hna hnb
      go_enter Tryz.func144, Tryz.ntmps144
      go_wp2_with fail
      refine HIa.out.mono ?_
      rintro e w1 ⟨rfl, hw1⟩
      have hw8 := hw1.symm
      subst hw8
      clear hw1
      go_wp2_with fail
      refine HIb.out.mono ?_
      rintro e w1 ⟨rfl, hw1⟩
      have hw8 := hw1.symm
      subst hw8
      clear hw1
      go_wp2
      go_ret2
      exact ⟨_, rfl, fun _ => ⟨rfl, .inl ⟨rfl, rfl⟩⟩, Below.refl _ _⟩
    | app c' ys =>
      rw [hnb] at hC hP HIb
      simp only at hC hP HIa HIb
      rw [ndI_app hmb hnb] at HIb ⊢
      obtain ⟨ao, cap, ⟨x0, x1, _⟩, hcap1, hcap2, hargs⟩ := hb.app hma hna
      obtain ⟨bo, cap', ⟨y0, y1, _⟩, hcap1', hcap2', hargs'⟩ := hb.app hmb hnb
      unfold maxLen at hcap2 hcap2'
      have has1 := as_uapp (.pointer (some ⟨ma.blk, 0, none⟩))
      have has2 := as_uapp (.pointer (some ⟨mb.blk, 0, none⟩))
      have HLo := hid hlow
      by_cases hcc : c = c'
      · subst hcc
        have hlen := hsym a b ma mb c xs ys hma hmb hna hnb
        obtain ⟨hx1, hx2⟩ := hwf _ _ _ _ hma hna
        obtain ⟨hy1, hy2⟩ := hwf _ _ _ _ hmb hnb
        have hCf : C = false := by rw [hC]; simp
        subst hCf
        have HX1 := hid hx1
        have HY1 := hid hy1
        have HArg := hid hargs
        have HArg' := hid hargs'
        have HPe := hid hP
        have HLen := hid hlen
        have hcn : (c != c) = false := by simp
        clear hb hlow hwf hsym ha hbl hma hmb eA eB hna hnb hC hP hx1 hy1 hargs hargs' hlen
        go_enter Tryz.func144, Tryz.ntmps144
        go_wp2_with fail
        refine HIa.out.mono ?_
        rintro e w1 ⟨rfl, hw1⟩
        have hw8 := hw1.symm
        subst hw8
        clear hw1
        go_wp2_with fail
        refine HIb.out.mono ?_
        rintro e w1 ⟨rfl, hw1⟩
        have hw8 := hw1.symm
        subst hw8
        clear hw1
        go_wp2
        go_quiet (fail)
        go_wp2
        go_quiet (fail)
        go_wp2
        go_loopw [8, 35] (fun v kv wr => ∃ k : Nat, k ≤ xs.length ∧ kv = .int .i64 k ∧ OwP6 wr w.heap.size v (prV M ((xs.zip ys).take k)) ∧ Below w.heap.size w wr) (fun _ kv _ => xs.length - (intOf kv).toNat)
        case atStart => exact ⟨0, Nat.zero_le _, rfl, ⟨rfl, .inl ⟨rfl, rfl⟩⟩, drawn_below rfl⟩
        case round =>
          obtain ⟨k, hk, rfl, how, hbr⟩ := hrel
          have HOw := hid how
          have HBr := hid hbr
          clear how hbr
          by_cases hlt : k < xs.length
          · have hdk : decide ((k : Int) < (xs.length : Int)) = true := by simpa using hlt
            have hlt2 : k < ys.length := by have := HLen.out; omega
            obtain ⟨x, hx⟩ : ∃ x, xs[k]? = some x := ⟨_, List.getElem?_eq_getElem hlt⟩
            obtain ⟨y, hy⟩ : ∃ y, ys[k]? = some y := ⟨_, List.getElem?_eq_getElem hlt2⟩
            have hxl := HX1.out x (List.mem_of_getElem? hx)
            have hyl := HY1.out y (List.mem_of_getElem? hy)
            obtain ⟨g, off, rfl, hcell⟩ : ∃ g off, ao = some ⟨g, off, none⟩ ∧ w.cell? ⟨g, off + k, none⟩ = some (ndI M x) := by
              rcases HArg.out with h | ⟨g, off, h1, h2⟩
              · rw [h] at hlt; simp at hlt
              · exact ⟨g, off, h1, h2.2.2 k x hx⟩
            obtain ⟨g', off', rfl, hcell'⟩ : ∃ g off, bo = some ⟨g, off, none⟩ ∧ w.cell? ⟨g, off + k, none⟩ = some (ndI M y) := by
              rcases HArg'.out with h | ⟨g, off, h1, h2⟩
              · rw [h] at hlt2; simp at hlt2
              · exact ⟨g, off, h1, h2.2.2 k y hy⟩
            have q0 := (Kp.of_below HBr.out).cell _ _ hcell
            have q1 := (Kp.of_below HBr.out).cell _ _ hcell'
            have q2 := (Kp.of_below HBr.out).cell _ _ y1
            have hone := prV_one (M := M) (P := [(x, y)]) (fun p hp => by rw [List.mem_singleton] at hp; subst hp; exact ⟨hxl, hyl⟩)
            have hnx : prV M ((xs.zip ys).take (k + 1)) = prV M ((xs.zip ys).take k) ++ prV M [(x, y)] := by
              have hz : (xs.zip ys)[k]? = some (x, y) := by rw [List.getElem?_zip_eq_some]; exact ⟨hx, hy⟩
              rw [List.take_add_one, hz, Option.toList_some]
              unfold prV
              rw [List.map_append]
            obtain ⟨tx, bx, ex⟩ := ndI_form hxl
            obtain ⟨ty, bY, ey⟩ := ndI_form hyl
            have hpe : prV M [(x, y)] = [(.iface tx (.pointer (some ⟨bx, 0, none⟩)), .iface ty (.pointer (some ⟨bY, 0, none⟩)))] := by unfold prV; simp only [List.map_cons, List.map_nil]; rw [ex, ey]
            rw [hpe] at hnx hone
            rw [ex] at q0
            rw [ey] at q1
            have hplen : (prV M ((xs.zip ys).take k)).length ≤ 1000 := by unfold prV; rw [List.length_map, List.length_take]; omega
            obtain ⟨WA, hWA⟩ : ∃ X, X = wr.alloc (.cells #[.iface tx (.pointer (some ⟨bx, 0, none⟩)), .iface ty (.pointer (some ⟨bY, 0, none⟩))] 170) := ⟨_, rfl⟩
            have bA : Below wr.heap.size wr WA := by rw [hWA]; exact below_alloc _
            obtain ⟨v2, w2, hr2, o2, g2, _⟩ := join_pairs6 171 (ao := some ⟨wr.heap.size, 0, none⟩) (cap := 1) (ys := [(.iface tx (.pointer (some ⟨bx, 0, none⟩)), .iface ty (.pointer (some ⟨bY, 0, none⟩)))]) (own_ch6 HOw.out (Ch6.of_below (M := []) bA) (fun m hm => by cases hm)) (.inr ⟨wr.heap.size, 0, rfl, fun j u hj => by
              rw [hWA]
              match j, hj with
              | 0, hj =>
                cases hj
                exact cell_new rfl
              | 1, hj =>
                cases hj
                exact cell_new rfl
              | j + 2, hj => simp [prC] at hj⟩) hone (Nat.le_trans HBr.out.size bA.size) (by simp only [List.length_cons, List.length_nil]; omega)
            rw [← hnx] at o2
            have HR2 := hid hr2
            have HO2 := hid o2
            have HB2 : Hid (Below w.heap.size w w2) := (below_step HBr.out bA).grown g2 (Nat.le_trans HBr.out.size bA.size) (fun j hj => own_blk HOw.out hj)
            clear hx hy hcell hcell' hone hnx ex ey hpe hplen bA hr2 o2 g2
            go_wp2_with (first
              | (rw [← hWA]; at_builtin; refine wpList_append_run rfl _ _ _ rfl _ _ rfl rfl HR2.out ?_))
            go_roundw
            case rel => exact ⟨k + 1, hlt, by go_num, HO2.out, HB2.out⟩
            case measure => simp [intOf]; omega
          · have hdk : decide ((k : Int) < (xs.length : Int)) = false := by simpa using (show ¬ (k : Int) < (xs.length : Int) by omega)
            have hke : (xs.zip ys).take k = P := by
              rw [HPe.out]
              exact List.take_of_length_le (by rw [List.length_zip]; omega)
            rw [hke] at HOw
            clear hke
            go_wp2
            go_ret2
            exact ⟨_, rfl, fun _ => HOw.out, HBr.out⟩
      · have hCt : C = true := by rw [hC]; simp [hcc]
        subst hCt
        have hcn : (c != c') = true := by rw [bne_iff_ne]; exact hcc
        clear hb hlow hwf hsym ha hbl hma hmb eA eB hna hnb hC hP hargs hargs'
        go_enter Tryz.func144, Tryz.ntmps144
        go_wp2_with fail
        refine HIa.out.mono ?_
        rintro e w1 ⟨rfl, hw1⟩
        have hw8 := hw1.symm
        subst hw8
        clear hw1
        go_wp2_with fail
        refine HIb.out.mono ?_
        rintro e w1 ⟨rfl, hw1⟩
        have hw8 := hw1.symm
        subst hw8
        clear hw1
        go_wp2
        go_quiet (fail)
        go_wp2
        go_quiet (fail)
        go_wp2
        go_ret2
        exact ⟨_, rfl, fun h => (by cases h), drawn_below (World.drewN_drewN _ _ _)⟩

end Go.Proofs.YtoapgbaibpkckaaGreatDoor

/- For join of package unify: forests and roots, plainly. -/
namespace Go.Proofs.YtoapgbaibpkckaaGreatDoor
open Go.RowKit Go.Maps Go.BigFrame

theorem clash_symm (L : List Nd) (a b : Nat) : clash L a b = clash L b a := by
  unfold clash
  cases h1 : L[a]? with
  | none =>
    cases h2 : L[b]? with
    | none => rfl
    | some y => cases y <;> rfl
  | some x =>
    cases h2 : L[b]? with
    | none => cases x <;> rfl
    | some y =>
      cases x with
      | var n => cases y <;> rfl
      | app c xs =>
        cases y with
        | var n => rfl
        | app c' ys =>
          simp only
          by_cases e : c = c'
          · subst e
            rfl
          · rw [decide_eq_false e, decide_eq_false (fun h => e h.symm)]

/-- Two ways made one. -/
theorem Fr6.uni {n : Nat} {into : Nat → Option Nat} {root rk : Nat → Nat} (h : Fr6 n into root rk) {c d : Nat} (hc : c < n) (hrc : root c = c) (hrd : root d = d) (hne : c ≠ d) : Fr6 n (fun i => if i = d then some c else into i) (uniR root c d) (fun i => if root i = c then rk i + rk d + 1 else rk i) := fun i hi => by
  by_cases e : i = d
  · subst e
    simp only [if_true]
    refine ⟨fun h9 => (by cases h9), fun j hj => ?_⟩
    cases hj
    refine ⟨hc, ?_, ?_⟩
    · rw [hrd, if_neg (fun h => hne h.symm), hrc, if_pos rfl]
      omega
    · unfold uniR
      rw [hrc, hrd, if_neg hne, if_pos rfl]
  · simp only [if_neg e]
    refine ⟨fun h9 => ?_, fun j hj => ?_⟩
    · have h1 := (h i hi).1 h9
      unfold uniR
      rw [h1, if_neg e]
    · obtain ⟨h1, h2, h3⟩ := (h i hi).2 j hj
      refine ⟨h1, ?_, ?_⟩
      · rw [h3]
        split
        · omega
        · exact h2
      · unfold uniR
        rw [h3]

/-- How many classes there are. -/
def nRoots (n : Nat) (root : Nat → Nat) : Nat := ((List.range n).filter fun i => decide (root i = i)).length

theorem filter_less {α : Type} {p q : α → Bool} : ∀ {l : List α}, (∀ a ∈ l, p a = true → q a = true) → (l.filter p).length ≤ (l.filter q).length
  | [], _ => Nat.le_refl _
  | a :: l, h => by
    have ih := filter_less (p := p) (q := q) (l := l) (fun x hx => h x (by simp [hx]))
    by_cases hp : p a = true
    · rw [List.filter_cons_of_pos hp, List.filter_cons_of_pos (h a (by simp) hp)]
      simp only [List.length_cons]
      omega
    · rw [List.filter_cons_of_neg hp]
      by_cases hq : q a = true
      · rw [List.filter_cons_of_pos hq]
        simp only [List.length_cons]
        omega
      · rw [List.filter_cons_of_neg hq]
        exact ih

theorem filter_lt {α : Type} {p q : α → Bool} {l : List α} (h : ∀ a ∈ l, p a = true → q a = true) {x : α} (hx : x ∈ l) (hq : q x = true) (hp : p x = false) : (l.filter p).length < (l.filter q).length := by
  obtain ⟨u, v, rfl⟩ := List.append_of_mem hx
  rw [List.filter_append, List.filter_append, List.filter_cons_of_pos hq, List.filter_cons_of_neg (by rw [hp]; simp), List.length_append, List.length_append, List.length_cons]
  have h1 := filter_less (p := p) (q := q) (l := u) (fun a ha => h a (by simp [ha]))
  have h2 := filter_less (p := p) (q := q) (l := v) (fun a ha => h a (by simp [ha]))
  omega

theorem nRoots_uni {n : Nat} {root : Nat → Nat} {c d : Nat} (hd : d < n) (hrd : root d = d) (hrc : root c = c) (hne : c ≠ d) : nRoots n (uniR root c d) < nRoots n root := by
  unfold nRoots
  refine filter_lt (fun i _ hp => ?_) (List.mem_range.2 hd) (decide_eq_true hrd) (decide_eq_false ?_)
  · have h1 := of_decide_eq_true hp
    refine decide_eq_true ?_
    unfold uniR at h1
    split at h1
    · rename_i h2
      subst h1
      rw [hrc] at h2
      exact absurd h2 hne
    · exact h1
  · unfold uniR
    rw [hrd, if_pos rfl]
    exact hne

theorem nRoots_le (n : Nat) (root : Nat → Nat) : nRoots n root ≤ n := by
  unfold nRoots
  have := List.length_filter_le (fun i => decide (root i = i)) (List.range n)
  simpa using this

theorem argP_len {sig : List Sy} (ha : ArOk sig) {L : List Nd} (hL : NdOk sig L) (a b : Nat) : (argP L a b).length ≤ 1000 ∧ ∀ p ∈ argP L a b, p.1 < L.length ∧ p.2 < L.length := by
  unfold argP
  split
  · rename_i c xs c' ys h1 h2
    obtain ⟨_, g2, g3⟩ := hL.sym _ _ _ h1
    have hs : sig[c.toNat]? = some sig[c.toNat] := List.getElem?_eq_getElem g2
    have h8 : xs.length ≤ 1000 := by
      rw [g3]
      unfold arN
      rw [hs]
      have := ha _ (List.mem_of_getElem? hs)
      simp only
      omega
    refine ⟨by rw [List.length_zip]; omega, fun p hp => ?_⟩
    obtain ⟨i, hi⟩ := List.getElem?_of_mem hp
    rw [List.getElem?_zip_eq_some] at hi
    exact ⟨Nat.lt_trans (hL.ahead _ _ _ h1 _ (List.mem_of_getElem? hi.1)) (List.getElem?_eq_some_iff.1 h1).1, Nat.lt_trans (hL.ahead _ _ _ h2 _ (List.mem_of_getElem? hi.2)) (List.getElem?_eq_some_iff.1 h2).1⟩
  · exact ⟨Nat.zero_le _, fun p hp => by cases hp⟩

/-- What the walks ask of nodes. -/
theorem nd_wf {sig : List Sy} (ha : ArOk sig) {M : List Nm} (hL : NdOk sig (M.map Nm.nd)) : (∀ (i : Nat) (m : Nm) (c : Int) (xs : List Nat), M[i]? = some m → m.nd = .app c xs → (∀ x ∈ xs, x < M.length) ∧ xs.length ≤ 1000) ∧ ∀ (i j : Nat) (m m' : Nm) (c : Int) (xs ys : List Nat), M[i]? = some m → M[j]? = some m' → m.nd = .app c xs → m'.nd = .app c ys → xs.length = ys.length := by
  have key : ∀ (i : Nat) (m : Nm) (c : Int) (xs : List Nat), M[i]? = some m → m.nd = .app c xs → (M.map Nm.nd)[i]? = some (Nd.app c xs) := fun i m c xs h1 h2 => by rw [List.getElem?_map, h1, Option.map_some, h2]
  refine ⟨fun i m c xs h1 h2 => ?_, fun i j m m' c xs ys h1 h2 h3 h4 => ?_⟩
  · have h3 := key i m c xs h1 h2
    obtain ⟨_, g2, g3⟩ := hL.sym _ _ _ h3
    have hs : sig[c.toNat]? = some sig[c.toNat] := List.getElem?_eq_getElem g2
    refine ⟨fun x hx => Nat.lt_trans (hL.ahead _ _ _ h3 x hx) (List.getElem?_eq_some_iff.1 h1).1, ?_⟩
    rw [g3]
    unfold arN
    rw [hs]
    have := ha _ (List.mem_of_getElem? hs)
    simp only
    omega
  · rw [(hL.sym _ _ _ (key i m c xs h1 h3)).2.2, (hL.sym _ _ _ (key j m' c ys h2 h4)).2.2]

end Go.Proofs.YtoapgbaibpkckaaGreatDoor

/- finish of package unify walked. -/
namespace Go.Proofs.YtoapgbaibpkckaaGreatDoor
open Go.RowKit Go.Maps Go.BigFrame

/-- The nodes of a class by those of its parts, cut off. -/
def sumC (cnt : Nat → Int) (ps : List Nat) : Int := ps.foldl (fun s p => if s + cnt p < 513 then s + cnt p else 513) 1

theorem sumC_snoc (cnt : Nat → Int) (ps : List Nat) (p : Nat) : sumC cnt (ps ++ [p]) = if sumC cnt ps + cnt p < 513 then sumC cnt ps + cnt p else 513 := by
  unfold sumC
  rw [List.foldl_append]
  rfl

theorem sumC_bnd {cnt : Nat → Int} {ps : List Nat} (h : ∀ p ∈ ps, 0 ≤ cnt p ∧ cnt p ≤ 513) : 1 ≤ sumC cnt ps ∧ sumC cnt ps ≤ 513 := by
  unfold sumC
  have key : ∀ (ps : List Nat) (s : Int), (∀ p ∈ ps, 0 ≤ cnt p ∧ cnt p ≤ 513) → 1 ≤ s → s ≤ 513 → 1 ≤ ps.foldl (fun s p => if s + cnt p < 513 then s + cnt p else 513) s ∧ ps.foldl (fun s p => if s + cnt p < 513 then s + cnt p else 513) s ≤ 513 := by
    intro ps
    induction ps with
    | nil => intro s _ h1 h2; exact ⟨h1, h2⟩
    | cons p ps ih =>
      intro s h h1 h2
      rw [List.foldl_cons]
      have hp := h p (by simp)
      apply ih _ (fun x hx => h x (by simp [hx]))
      · split <;> omega
      · split <;> omega
  exact key ps 1 h (by omega) (by omega)

theorem ptsN_lt {M : List Nm} {root : Nat → Nat} (hwf : ∀ (i : Nat) (m : Nm) (c : Int) (xs : List Nat), M[i]? = some m → m.nd = .app c xs → (∀ x ∈ xs, x < M.length) ∧ xs.length ≤ 1000) (hr : ∀ i, i < M.length → root i < M.length) {f : Nat} : (∀ p ∈ ptsN M root f, p < M.length) ∧ (ptsN M root f).length ≤ 1000 := by
  unfold ptsN
  cases hm : M[f]? with
  | none => exact ⟨fun p hp => by simp at hp, by simp⟩
  | some m =>
    simp only [Option.map_some]
    cases hn : m.nd with
    | var n => exact ⟨fun p hp => by simp at hp, by simp⟩
    | app c xs =>
      obtain ⟨h1, h2⟩ := hwf f m c xs hm hn
      simp only
      refine ⟨fun p hp => ?_, by rw [List.length_map]; exact h2⟩
      obtain ⟨x, hx, rfl⟩ := List.mem_map.1 hp
      exact hr x (h1 x hx)

set_option maxRecDepth 100000 in
set_option maxHeartbeats 3200000 in
theorem finish_any {w : World} {B T : Nat} {M : List Nm} {into : Nat → Option Nat} {face : Nat → Nat} {cnt : Nat → Int} {root rk : Nat → Nat} (hb : Bd6 w B T M into face cnt) (hf : Fr6 M.length into root rk) (hlow : T ≤ w.heap.size) (hwf : ∀ (i : Nat) (m : Nm) (c : Int) (xs : List Nat), M[i]? = some m → m.nd = .app c xs → (∀ x ∈ xs, x < M.length) ∧ xs.length ≤ 1000) (hr : ∀ i, i < M.length → root i < M.length)
    {i : Nat} {mi : Nm} (hmi : M[i]? = some mi) (hfl : face i < M.length) (hp : cnt i = -1 → ∀ p ∈ ptsN M root (face i), p ≠ i ∧ 0 ≤ cnt p ∧ cnt p ≤ 513) :
    Calls Tryz.prog 146 #[.pointer (some ⟨mi.cls, 0, none⟩)] w fun e w' => e = .returned (.tuple #[]) ∧ ∃ into', Bd6 w' B T M into' face (fun j => if j = i then (if cnt i = -1 then sumC cnt (ptsN M root (face i)) else cnt i) else cnt j) ∧ Fr6 M.length into' root rk ∧ Ch6 M w w' := by
  obtain ⟨k9, hk9, _, _, _, x3⟩ := hb.clc hmi
  have HB := hid hb
  have HF := hid hf
  have HLo := hid hlow
  have HWf := hid hwf
  have HMi := hid hmi
  by_cases hc : cnt i = -1
  · have hp' := hp hc
    rw [if_pos hc]
    obtain ⟨ps, hps⟩ : ∃ ps, ps = ptsN M root (face i) := ⟨_, rfl⟩
    rw [← hps] at hp' ⊢
    obtain ⟨hpl, hpn⟩ := ptsN_lt hwf hr (f := face i)
    rw [← hps] at hpl hpn
    rw [hc] at x3
    have f3 : w.frozen? ⟨mi.cls, 3, none⟩ = false := frozen_of_row _ _ _ _ _ hk9
    obtain ⟨W1, hW1⟩ : ∃ X, X = w.setCell ⟨mi.cls, 3, none⟩ (.int .i64 1) := ⟨_, rfl⟩
    obtain ⟨hb1, hc1⟩ := hb.put hmi (o := into i) (f := face i) (n := 1) (w' := W1) (by rw [hW1]; exact set_grown _ _ _ _) ⟨k9, by rw [hW1]; exact heap_setCell_same _ _ _ _ _ _ hk9⟩
    rw [if_self6, if_self6] at hb1
    have HC1 := hid hc1
    have HPa := hid (parts_any hb1 hf (Nat.le_trans hlow hc1.size) hwf hmi hfl)
    rw [← hps] at HPa
    have HP' := hid hp'
    have HPl := hid hpl
    have HCe := hid hc
    clear hb hf hlow hwf hmi hfl hp hc hp' hpl hps hk9 hb1 hc1 hr
    go_enter Tryz.func146, Tryz.ntmps146
    go_upto_region 2 with fail
    rw [← hW1]
    clear hW1 x3 f3
    go_wp2_with fail
    refine HPa.out.mono ?_
    rintro e w2 ⟨v2, into2, rfl, o2, hb2, hf2, hc2⟩
    obtain ⟨ao, cap, hv2, hcp1, hcp2⟩ := o2.shape
    subst hv2
    unfold maxLen at hcp2
    have HO2 := hid o2
    have HB2 := hid hb2
    have HF2 := hid hf2
    have HC2 := hid (HC1.out.trans hc2)
    have HS2 := hid (Nat.le_trans HLo.out HC1.out.size)
    clear o2 hb2 hf2 hc2 HPa
    go_wp2
    go_loopw [15] (fun kv wr => ∃ k : Nat, k ≤ ps.length ∧ kv = .int .i64 k ∧ OwC6 wr W1.heap.size M (.slice ao ps.length cap) ps ∧ Bd6 wr B T M into2 face (fun j => if j = i then sumC cnt (ps.take k) else cnt j) ∧ Ch6 M w wr) (fun kv _ => ps.length - (intOf kv).toNat)
    case atStart => exact ⟨0, Nat.zero_le _, rfl, HO2.out, HB2.out, HC2.out⟩
    case round =>
      obtain ⟨k, hk, rfl, how, hbr, hcr⟩ := hrel
      have HOw := hid how
      have HBr := hid hbr
      have HCr := hid hcr
      by_cases hlt : k < ps.length
      · have hdk : decide ((k : Int) < (ps.length : Int)) = true := by simpa using hlt
        obtain ⟨p, hpk⟩ : ∃ p, ps[k]? = some p := ⟨_, List.getElem?_eq_getElem hlt⟩
        have hpm := List.mem_of_getElem? hpk
        obtain ⟨hpi, hp0, hp1⟩ := HP'.out p hpm
        obtain ⟨mp, hmp⟩ : ∃ m, M[p]? = some m := ⟨_, List.getElem?_eq_getElem (HPl.out p hpm)⟩
        obtain ⟨g, cp, hv, hge, hcl1, hcl2, hcell⟩ := own_last6 how hpk
        simp only [Value.slice.injEq] at hv
        obtain ⟨rfl, _, rfl⟩ := hv
        rw [clV_eq hmp] at hcell
        obtain ⟨kp, _, _, _, _, q3⟩ := hbr.clc hmp
        obtain ⟨ki, hki, _, _, _, s3⟩ := hbr.clc HMi.out
        simp only [if_neg hpi] at q3
        simp only [if_true] at s3 hki
        have hbd := sumC_bnd (cnt := cnt) (ps := ps.take k) (fun x hx => ⟨(HP'.out x (List.mem_of_mem_take hx)).2.1, (HP'.out x (List.mem_of_mem_take hx)).2.2⟩)
        obtain ⟨S, hS⟩ : ∃ S, S = sumC cnt (ps.take k) := ⟨_, rfl⟩
        rw [← hS] at s3 hki hbd
        have f3 : wr.frozen? ⟨mi.cls, 3, none⟩ = false := frozen_of_row _ _ _ _ _ hki
        have hw1 : IntKind.i64.wrap (S + cnt p) = S + cnt p := IntWalk.i64_in _ ⟨by omega, by omega⟩
        have HNx : Hid (sumC cnt (ps.take (k + 1)) = if S + cnt p < 513 then S + cnt p else 513) := by
          show _ = _
          rw [List.take_add_one, hpk, Option.toList_some, sumC_snoc, ← hS]
        have HDone : Hid (∀ (X : Int), X = (if S + cnt p < 513 then S + cnt p else 513) → ∀ W, W = (wr.setCell ⟨mi.cls, 3, none⟩ (.int .i64 X)).drew → OwC6 W W1.heap.size M (.slice (some ⟨g, 0, none⟩) ps.length cap) ps ∧ Bd6 W B T M into2 face (fun j => if j = i then sumC cnt (ps.take (k + 1)) else cnt j) ∧ Ch6 M w W) := fun X hX W hW => by
          have hgr : wr.grownBy W (some mi.cls) := by rw [hW]; exact grown_trans (set_grown _ _ _ _) (grown_of_below (drawn_below1 _) _)
          obtain ⟨hb5, hc5⟩ := HBr.out.put HMi.out (o := into2 i) (f := face i) (n := X) (w' := W) hgr ⟨ki, by rw [hW]; show (World.setCell _ _ _).heap[mi.cls]? = _; exact heap_setCell_same _ _ _ _ _ _ hki⟩
          rw [if_self6, if_self6] at hb5
          have hfun : (fun j => if j = i then X else if j = i then sumC cnt (ps.take k) else cnt j) = fun j => if j = i then sumC cnt (ps.take (k + 1)) else cnt j := by
            funext j
            by_cases e : j = i
            · rw [if_pos e, if_pos e, HNx.out, hX]
            · rw [if_neg e, if_neg e, if_neg e]
          rw [hfun] at hb5
          exact ⟨own_ch6 HOw.out hc5 (fun m hm => Nat.lt_of_lt_of_le (HBr.out.low m hm).1.2 HS2.out), hb5, HCr.out.trans hc5⟩
        clear how hbr hcr hki hpk hmp hS hpm
        go_wp2
        go_region
        obtain ⟨W, hW⟩ : ∃ X, X = (wr.setCell ⟨mi.cls, 3, none⟩ (.int .i64 (min (S + cnt p) 513))).drew := ⟨_, rfl⟩
        have HDn := hid (HDone.out _ (by split <;> omega) W hW)
        rw [← hW]
        clear hW hcell q3 s3 f3 hw1
        go_wp2
        go_roundw
        case rel => exact ⟨k + 1, hlt, by go_num, HDn.out.1, HDn.out.2.1, HDn.out.2.2⟩
        case measure => simp [intOf]; omega
      · have hdk : decide ((k : Int) < (ps.length : Int)) = false := by simpa using (show ¬ (k : Int) < (ps.length : Int) by omega)
        rw [List.take_of_length_le (by omega)] at HBr
        clear how hbr hcr
        go_wp2
        go_end0
        exact ⟨rfl, into2, HBr.out, HF2.out, HCr.out⟩
  · rw [if_neg hc]
    have hne : (cnt i != -1) = true := by rw [bne_iff_ne]; exact hc
    have hfe : (fun j => if j = i then cnt i else cnt j) = cnt := if_self6
    rw [hfe]
    clear hb hf hlow hwf hmi hfl hp hk9
    go_enter Tryz.func146, Tryz.ntmps146
    go_wp2
    (try simp only [Exit.inBlock, Exit.then])
    refine bodyPost_ret (results_none rfl _ _ _) rfl ?_
    exact ⟨rfl, into, HB.out, HF.out, Ch6.refl _ _⟩

end Go.Proofs.YtoapgbaibpkckaaGreatDoor

/- Counting the nodes of classes, plainly: what holds between the rounds of count. -/
namespace Go.Proofs.YtoapgbaibpkckaaGreatDoor
open Go.RowKit Go.Maps Go.BigFrame

/-- A length, cut off. -/
def cutL (n : Nat) : Int := if n < 513 then (n : Int) else 513

theorem sumC_len {cnt : Nat → Int} {ps : List Nat} {ts : List (List Int)} (hl : ts.length = ps.length) (h : ∀ (k p : Nat) (t : List Int), ps[k]? = some p → ts[k]? = some t → cnt p = cutL t.length) : sumC cnt ps = cutL (1 + ts.flatten.length) := by
  unfold sumC
  have key : ∀ (ps : List Nat) (ts : List (List Int)) (n : Nat), 1 ≤ n → ts.length = ps.length → (∀ (k p : Nat) (t : List Int), ps[k]? = some p → ts[k]? = some t → cnt p = cutL t.length) → ps.foldl (fun s p => if s + cnt p < 513 then s + cnt p else 513) (cutL n) = cutL (n + ts.flatten.length) := by
    intro ps
    induction ps with
    | nil =>
      intro ts n _ hl _
      have : ts = [] := List.eq_nil_of_length_eq_zero (by simpa using hl)
      subst this
      simp
    | cons p ps ih =>
      intro ts n hn hl h
      cases ts with
      | nil => simp at hl
      | cons t ts =>
        have h0 := h 0 p t rfl rfl
        have e : (if cutL n + cnt p < 513 then cutL n + cnt p else 513) = cutL (n + t.length) := by
          rw [h0]
          unfold cutL
          split <;> split <;> split <;> split <;> omega
        rw [List.foldl_cons, e, ih ts (n + t.length) (by omega) (by simpa using hl) (fun k p t hk ht => h (k + 1) p t (by simpa using hk) (by simpa using ht)), List.flatten_cons, List.length_append, Nat.add_assoc]
  have h1 := key ps ts 1 (by omega) hl h
  rw [← h1]
  rfl

theorem pts_iff {M : List Nm} {root face : Nat → Nat} {q d : Nat} : d ∈ ptsN M root (face q) ↔ Pt (M.map Nm.nd) root face q d := by
  unfold ptsN Pt
  cases hm : M[face q]? with
  | none =>
    simp only [Option.map_none, List.not_mem_nil, false_iff]
    rintro ⟨s, xs, x, h1, _⟩
    rw [List.getElem?_map, hm] at h1
    cases h1
  | some m =>
    simp only [Option.map_some]
    cases hn : m.nd with
    | var n =>
      simp only [List.not_mem_nil, false_iff]
      rintro ⟨s, xs, x, h1, _⟩
      rw [List.getElem?_map, hm, Option.map_some, hn] at h1
      cases h1
    | app c xs =>
      simp only
      constructor
      · intro h
        obtain ⟨x, hx, rfl⟩ := List.mem_map.1 h
        exact ⟨c, xs, x, by rw [List.getElem?_map, hm, Option.map_some, hn], hx, rfl⟩
      · rintro ⟨s, ys, x, h1, h2, rfl⟩
        rw [List.getElem?_map, hm, Option.map_some, hn] at h1
        cases h1
        exact List.mem_map.2 ⟨x, h2, rfl⟩

/-- What holds between the rounds. -/
structure CI (M : List Nm) (root face : Nat → Nat) (r : Nat) (cnt : Nat → Int) (O : List Nat) : Prop where
  st : ∀ i, i < M.length → root i = i → cnt i = 0 ∨ cnt i = -1 ∨ ∃ t, TmC (M.map Nm.nd) root face i t ∧ cnt i = cutL t.length
  el : ∀ q ∈ O, q < M.length ∧ root q = q
  op : ∀ q, q < M.length → root q = q → cnt q = -1 → ∃ s : Nat, O[s]? = some q ∧ (∀ d, Pt (M.map Nm.nd) root face q d → 0 < cnt d ∨ ∃ s' : Nat, s < s' ∧ O[s']? = some d) ∧ ∀ (s' e : Nat), s < s' → O[s']? = some e → Rch (M.map Nm.nd) root face q e ∧ e ≠ q
  go : 0 < cnt r ∨ O[0]? = some r
  dn : ∀ q, q < M.length → root q = q → 0 < cnt q → ∀ d, Pt (M.map Nm.nd) root face q d → 0 < cnt d

theorem cut_pos {n : Nat} (h : 0 < n) : 0 < cutL n ∧ cutL n ≤ 513 := by unfold cutL; split <;> omega

theorem tm_pos {L : List Nd} {root face : Nat → Nat} {c : Nat} {t : List Int} (h : TmC L root face c t) : 0 < t.length := by
  cases h <;> simp

theorem ci_pos {M : List Nm} {root face : Nat → Nat} {r : Nat} {cnt : Nat → Int} {O : List Nat} (h : CI M root face r cnt O) {i : Nat} (hi : i < M.length) (hr : root i = i) : cnt i ≤ 513 ∧ -1 ≤ cnt i := by
  rcases h.st i hi hr with h1 | h1 | ⟨t, ht, h1⟩
  · omega
  · omega
  · have := cut_pos (tm_pos ht)
    omega

theorem last_at {O' : List Nat} {q s d : Nat} (h : (O' ++ [q])[s]? = some d) : O'[s]? = some d ∨ (s = O'.length ∧ d = q) := by
  by_cases hs : s < O'.length
  · rw [List.getElem?_append_left hs] at h
    exact .inl h
  · have hl := (List.getElem?_eq_some_iff.1 h).1
    rw [List.length_append, List.length_singleton] at hl
    have e : s = O'.length := by omega
    subst e
    rw [List.getElem?_append_right (Nat.le_refl _), Nat.sub_self] at h
    cases h
    exact .inr ⟨rfl, rfl⟩

/-- A class that is counted is taken off. -/
theorem ci_pop {M : List Nm} {root face : Nat → Nat} {r q : Nat} {cnt : Nat → Int} {O' : List Nat} (h : CI M root face r cnt (O' ++ [q])) (h0 : cnt q ≠ 0) (h1 : cnt q ≠ -1) : CI M root face r cnt O' := by
  obtain ⟨hql, hqr⟩ := h.el q (by simp)
  have hqp : 0 < cnt q := by
    rcases h.st q hql hqr with h2 | h2 | ⟨t, ht, h2⟩
    · exact absurd h2 h0
    · exact absurd h2 h1
    · have := cut_pos (tm_pos ht)
      omega
  refine ⟨h.st, fun x hx => h.el x (by simp [hx]), fun x hx hxr hxc => ?_, ?_, h.dn⟩
  · obtain ⟨s, s1, s2, s3⟩ := h.op x hx hxr hxc
    rcases last_at s1 with s1 | ⟨_, rfl⟩
    · refine ⟨s, s1, fun d hd => ?_, fun s' e hs he => s3 s' e hs (by rw [List.getElem?_append_left (List.getElem?_eq_some_iff.1 he).1]; exact he)⟩
      rcases s2 d hd with h2 | ⟨s', h3, h4⟩
      · exact .inl h2
      · rcases last_at h4 with h4 | ⟨_, rfl⟩
        · exact .inr ⟨s', h3, h4⟩
        · exact .inl hqp
    · exact absurd hxc h1
  · rcases h.go with h2 | h2
    · exact .inl h2
    · rcases last_at h2 with h2 | ⟨_, rfl⟩
      · exact .inr h2
      · exact .inl hqp

/-- The parts of a class that is to be finished. -/
theorem ci_parts {M : List Nm} {root face : Nat → Nat} {r q : Nat} {cnt : Nat → Int} {O' : List Nat} (h : CI M root face r cnt (O' ++ [q])) (h1 : cnt q = -1) : ∀ d, Pt (M.map Nm.nd) root face q d → d ≠ q ∧ 0 < cnt d := fun d hd => by
  obtain ⟨hql, hqr⟩ := h.el q (by simp)
  obtain ⟨s, s1, s2, s3⟩ := h.op q hql hqr h1
  have hs : s = O'.length := by
    rcases last_at s1 with s4 | ⟨s4, _⟩
    · have hlt := (List.getElem?_eq_some_iff.1 s4).1
      exact absurd rfl (s3 O'.length q hlt (by rw [List.getElem?_append_right (Nat.le_refl _), Nat.sub_self]; rfl)).2
    · exact s4
  have hp : 0 < cnt d := by
    rcases s2 d hd with h2 | ⟨s', h3, h4⟩
    · exact h2
    · have := (List.getElem?_eq_some_iff.1 h4).1
      rw [List.length_append, List.length_singleton] at this
      omega
  exact ⟨fun e => by subst e; omega, hp⟩

/-- A class whose parts are counted is, and is taken off. -/
theorem ci_fin {sig : List Sy} {M : List Nm} (hL : NdOk sig (M.map Nm.nd)) {root face : Nat → Nat} (hc : ClOk (M.map Nm.nd) root face) {r q : Nat} {cnt : Nat → Int} {O' : List Nat} (h : CI M root face r cnt (O' ++ [q])) (h1 : cnt q = -1) : CI M root face r (fun j => if j = q then sumC cnt (ptsN M root (face q)) else cnt j) O' := by
  have hlen : (M.map Nm.nd).length = M.length := by rw [List.length_map]
  obtain ⟨hql, hqr⟩ := h.el q (by simp)
  have hps := ci_parts h h1
  have hfl := hc.face_lt q (by omega)
  rw [hqr] at hfl
  obtain ⟨mf, hmf⟩ : ∃ m, M[face q]? = some m := ⟨_, List.getElem?_eq_getElem (by omega)⟩
  have hLf : (M.map Nm.nd)[face q]? = some mf.nd := by rw [List.getElem?_map, hmf]; rfl
  have htm : ∃ t, TmC (M.map Nm.nd) root face q t ∧ sumC cnt (ptsN M root (face q)) = cutL t.length := by
    cases hn : mf.nd with
    | var n =>
      rw [hn] at hLf
      refine ⟨_, TmC.var hLf, ?_⟩
      unfold ptsN
      rw [hmf]
      simp only [Option.map_some, hn]
      rfl
    | app c xs =>
      rw [hn] at hLf
      have hall : ∀ x ∈ xs, ∃ t, TmC (M.map Nm.nd) root face (root x) t ∧ cnt (root x) = cutL t.length := fun x hx => by
        have hxl := Nat.lt_trans (hL.ahead _ _ _ hLf x hx) (List.getElem?_eq_some_iff.1 hLf).1
        obtain ⟨p1, p2⟩ := hps (root x) ⟨c, xs, x, hLf, hx, rfl⟩
        rcases h.st (root x) (by have := hc.lt x hxl; omega) (hc.idem x hxl) with h2 | h2 | h2
        · omega
        · omega
        · exact h2
      obtain ⟨ts, hts1, hts2⟩ : ∃ ts : List (List Int), ts.length = xs.length ∧ ∀ (k x : Nat) (t : List Int), xs[k]? = some x → ts[k]? = some t → TmC (M.map Nm.nd) root face (root x) t ∧ cnt (root x) = cutL t.length := by
        clear hLf hn hmf
        induction xs with
        | nil => exact ⟨[], rfl, fun k x t hk => by simp at hk⟩
        | cons x xs ih =>
          obtain ⟨t, ht⟩ := hall x (by simp)
          obtain ⟨ts, i1, i2⟩ := ih (fun y hy => hall y (by simp [hy]))
          refine ⟨t :: ts, by simp [i1], fun k y u hk hu => ?_⟩
          cases k with
          | zero =>
            simp only [List.getElem?_cons_zero, Option.some.injEq] at hk hu
            subst hk hu
            exact ht
          | succ k => exact i2 k y u (by simpa using hk) (by simpa using hu)
      refine ⟨c :: ts.flatten, TmC.app hLf hts1 (fun k x t hx ht => (hts2 k x t hx ht).1), ?_⟩
      unfold ptsN
      rw [hmf]
      simp only [Option.map_some, hn]
      rw [sumC_len (ts := ts) (by rw [List.length_map]; exact hts1) (fun k p t hp ht => by
        rw [List.getElem?_map] at hp
        cases hx : xs[k]? with
        | none => rw [hx] at hp; cases hp
        | some x =>
          rw [hx] at hp
          cases hp
          exact (hts2 k x t hx ht).2), List.length_cons, Nat.add_comm]
  obtain ⟨t, ht, hst⟩ := htm
  have hpos : 0 < sumC cnt (ptsN M root (face q)) := by rw [hst]; exact (cut_pos (tm_pos ht)).1
  have hup : ∀ d, 0 < cnt d → 0 < (if d = q then sumC cnt (ptsN M root (face q)) else cnt d) := fun d hd => by
    split
    · exact hpos
    · exact hd
  refine ⟨fun i hi hr => ?_, fun x hx => h.el x (by simp [hx]), fun x hx hxr hxc => ?_, ?_, fun x hx hxr hxc d hd => ?_⟩
  · by_cases e : i = q
    · subst e
      simp only [if_true]
      exact .inr (.inr ⟨t, ht, hst⟩)
    · simp only [if_neg e]
      exact h.st i hi hr
  · by_cases e : x = q
    · simp only [if_pos e] at hxc
      omega
    · simp only [if_neg e] at hxc
      obtain ⟨s, s1, s2, s3⟩ := h.op x hx hxr hxc
      rcases last_at s1 with s1 | ⟨_, rfl⟩
      · refine ⟨s, s1, fun d hd => ?_, fun s' e hs he => s3 s' e hs (by rw [List.getElem?_append_left (List.getElem?_eq_some_iff.1 he).1]; exact he)⟩
        rcases s2 d hd with h2 | ⟨s', h3, h4⟩
        · exact .inl (hup d h2)
        · rcases last_at h4 with h4 | ⟨_, rfl⟩
          · exact .inr ⟨s', h3, h4⟩
          · simp only [if_true]
            exact .inl hpos
      · exact absurd rfl e
  · rcases h.go with h2 | h2
    · exact .inl (hup r h2)
    · rcases last_at h2 with h2 | ⟨_, rfl⟩
      · exact .inr h2
      · simp only [if_true]
        exact .inl hpos
  · by_cases e : x = q
    · subst e
      exact hup d (hps d hd).2
    · rw [if_neg e] at hxc
      exact hup d (h.dn x hx hxr hxc d hd)

/-- A class is opened: its parts wait. -/
theorem ci_push {sig : List Sy} {M : List Nm} (hL : NdOk sig (M.map Nm.nd)) {root face : Nat → Nat} (hc : ClOk (M.map Nm.nd) root face) {r q : Nat} {cnt : Nat → Int} {O' : List Nat} (h : CI M root face r cnt (O' ++ [q])) (h0 : cnt q = 0) (hn : ∀ d ∈ ptsN M root (face q), (if d = q then (-1 : Int) else cnt d) ≠ -1) : CI M root face r (fun j => if j = q then -1 else cnt j) (O' ++ [q] ++ ptsN M root (face q)) := by
  have hlen : (M.map Nm.nd).length = M.length := by rw [List.length_map]
  obtain ⟨hql, hqr⟩ := h.el q (by simp)
  have hpr : ∀ d, Pt (M.map Nm.nd) root face q d → d < M.length ∧ root d = d := fun d ⟨s, xs, x, h1, h2, e⟩ => by
    have hxl := Nat.lt_trans (hL.ahead _ _ _ h1 x h2) (List.getElem?_eq_some_iff.1 h1).1
    subst e
    exact ⟨by have := hc.lt x hxl; omega, hc.idem x hxl⟩
  have hup : ∀ d, 0 < cnt d → 0 < (if d = q then (-1 : Int) else cnt d) := fun d hd => by
    split
    · rename_i e
      subst e
      omega
    · exact hd
  have hl1 : (O' ++ [q]).length = O'.length + 1 := by simp
  refine ⟨fun i hi hr => ?_, fun x hx => ?_, fun x hx hxr hxc => ?_, ?_, fun x hx hxr hxc d hd => ?_⟩
  · by_cases e : i = q
    · simp only [if_pos e]
      exact .inr (.inl trivial)
    · simp only [if_neg e]
      exact h.st i hi hr
  · rcases List.mem_append.1 hx with hx | hx
    · exact h.el x hx
    · exact hpr x (pts_iff.1 hx)
  · by_cases e : x = q
    · subst e
      refine ⟨O'.length, by rw [List.getElem?_append_left (by omega), List.getElem?_append_right (Nat.le_refl _), Nat.sub_self]; rfl, fun d hd => ?_, fun s' e9 hs he => ?_⟩
      · obtain ⟨k, hk⟩ := List.getElem?_of_mem (pts_iff.2 hd)
        exact .inr ⟨O'.length + 1 + k, by omega, by rw [List.getElem?_append_right (by omega), hl1, show O'.length + 1 + k - (O'.length + 1) = k by omega]; exact hk⟩
      · rw [List.getElem?_append_right (by omega)] at he
        have hm := List.mem_of_getElem? he
        refine ⟨.one (pts_iff.1 hm), fun e => ?_⟩
        subst e
        exact hn _ hm (by rw [if_pos rfl])
    · simp only [if_neg e] at hxc
      obtain ⟨s, s1, s2, s3⟩ := h.op x hx hxr hxc
      have hsl := (List.getElem?_eq_some_iff.1 s1).1
      have hsq : s < O'.length := by
        rcases last_at s1 with s4 | ⟨_, s4⟩
        · exact (List.getElem?_eq_some_iff.1 s4).1
        · exact absurd s4 e
      have hrq := (s3 O'.length q hsq (by rw [List.getElem?_append_right (Nat.le_refl _), Nat.sub_self]; rfl)).1
      refine ⟨s, by rw [List.getElem?_append_left hsl]; exact s1, fun d hd => ?_, fun s' e9 hs he => ?_⟩
      · rcases s2 d hd with h2 | ⟨s', h3, h4⟩
        · exact .inl (hup d h2)
        · exact .inr ⟨s', h3, by rw [List.getElem?_append_left (List.getElem?_eq_some_iff.1 h4).1]; exact h4⟩
      · by_cases hs2 : s' < (O' ++ [q]).length
        · rw [List.getElem?_append_left hs2] at he
          exact s3 s' e9 hs he
        · rw [List.getElem?_append_right (by omega)] at he
          have hm := List.mem_of_getElem? he
          refine ⟨.more hrq (pts_iff.1 hm), fun e8 => ?_⟩
          subst e8
          exact hn _ hm (by rw [if_neg e]; exact hxc)
  · rcases h.go with h2 | h2
    · exact .inl (hup r h2)
    · exact .inr (by rw [List.getElem?_append_left (List.getElem?_eq_some_iff.1 h2).1]; exact h2)
  · by_cases e : x = q
    · rw [if_pos e] at hxc
      omega
    · rw [if_neg e] at hxc
      exact hup d (h.dn x hx hxr hxc d hd)

/-- A part that is open: a circle. -/
theorem ci_circle {sig : List Sy} {M : List Nm} (hL : NdOk sig (M.map Nm.nd)) {root face : Nat → Nat} (hc : ClOk (M.map Nm.nd) root face) {r q d : Nat} {cnt : Nat → Int} {O' : List Nat} (h : CI M root face r cnt (O' ++ [q])) (hd : d ∈ ptsN M root (face q)) (hn : (if d = q then (-1 : Int) else cnt d) = -1) : ∃ c, c < M.length ∧ root c = c ∧ Rch (M.map Nm.nd) root face c c := by
  have hlen : (M.map Nm.nd).length = M.length := by rw [List.length_map]
  obtain ⟨hql, hqr⟩ := h.el q (by simp)
  have hp := pts_iff.1 hd
  by_cases e : d = q
  · subst e
    exact ⟨d, hql, hqr, .one hp⟩
  · rw [if_neg e] at hn
    obtain ⟨s9, xs, x, h1, h2, e9⟩ := hp
    have hxl := Nat.lt_trans (hL.ahead _ _ _ h1 x h2) (List.getElem?_eq_some_iff.1 h1).1
    have hdl : d < M.length ∧ root d = d := by subst e9; exact ⟨by have := hc.lt x hxl; omega, hc.idem x hxl⟩
    obtain ⟨s, s1, s2, s3⟩ := h.op d hdl.1 hdl.2 hn
    have hsq : s < O'.length := by
      rcases last_at s1 with s4 | ⟨_, s4⟩
      · exact (List.getElem?_eq_some_iff.1 s4).1
      · exact absurd s4 e
    have hrq := (s3 O'.length q hsq (by rw [List.getElem?_append_right (Nat.le_refl _), Nat.sub_self]; rfl)).1
    exact ⟨d, hdl.1, hdl.2, .more hrq (pts_iff.1 hd)⟩

/-- How many are not counted. -/
def nZero (n : Nat) (cnt : Nat → Int) : Nat := ((List.range n).filter fun i => decide (cnt i = 0)).length

theorem nZero_mark {n q : Nat} {cnt : Nat → Int} (hq : q < n) (h0 : cnt q = 0) : nZero n (fun j => if j = q then -1 else cnt j) < nZero n cnt := by
  unfold nZero
  refine filter_lt (fun i _ hp => ?_) (List.mem_range.2 hq) (decide_eq_true h0) (decide_eq_false (by simp only [if_true]; omega))
  have h1 := of_decide_eq_true hp
  by_cases e : i = q
  · simp only [if_pos e] at h1
    omega
  · simp only [if_neg e] at h1
    exact decide_eq_true h1

theorem nZero_less {n q : Nat} {cnt : Nat → Int} {x : Int} (hx : x ≠ 0) : nZero n (fun j => if j = q then x else cnt j) ≤ nZero n cnt := by
  unfold nZero
  refine filter_less fun i _ hp => ?_
  have h1 := of_decide_eq_true hp
  by_cases e : i = q
  · simp only [if_pos e] at h1
    exact absurd h1 hx
  · simp only [if_neg e] at h1
    exact decide_eq_true h1

theorem nZero_le (n : Nat) (cnt : Nat → Int) : nZero n cnt ≤ n := by
  unfold nZero
  have := List.length_filter_le (fun i => decide (cnt i = 0)) (List.range n)
  simpa using this

end Go.Proofs.YtoapgbaibpkckaaGreatDoor

/- The nodes of a right term, grown from its back to its front: plain. -/
namespace Go.Proofs.YtoapgbaibpkckaaGreatDoor

theorem snoc_old {α : Type} {L : List α} {x y : α} {i : Nat} (h : L[i]? = some y) : (L ++ [x])[i]? = some y := by
  rw [List.getElem?_append_left (List.getElem?_eq_some_iff.1 h).1]
  exact h

theorem snoc_new {α : Type} (L : List α) (x : α) : (L ++ [x])[L.length]? = some x := by simp

theorem snoc_parts {α : Type} {L : List α} {x y : α} {i : Nat} (h : (L ++ [x])[i]? = some y) : L[i]? = some y ∨ (i = L.length ∧ y = x) := by
  have hi := (List.getElem?_eq_some_iff.1 h).1
  rw [List.length_append, List.length_singleton] at hi
  by_cases e : i < L.length
  · rw [List.getElem?_append_left e] at h
    exact .inl h
  · obtain rfl : i = L.length := by omega
    rw [snoc_new] at h
    exact .inr ⟨rfl, (Option.some.inj h).symm⟩

theorem ndOk_var {sig : List Sy} {L : List Nd} (h : NdOk sig L) {n : Int} (h0 : 0 ≤ n) (h1 : n < 1048576) (hn : ∀ i : Nat, L[i]? ≠ some (Nd.var n)) : NdOk sig (L ++ [.var n]) := by
  refine ⟨fun i m hm => ?_, fun i c xs hm => ?_, fun i c xs hm => ?_, fun i j m hi hj => ?_⟩
  · rcases snoc_parts hm with hm | ⟨_, hm⟩
    · exact h.num i m hm
    · cases hm
      exact ⟨h0, h1⟩
  · rcases snoc_parts hm with hm | ⟨_, hm⟩
    · exact h.sym i c xs hm
    · cases hm
  · rcases snoc_parts hm with hm | ⟨_, hm⟩
    · exact h.ahead i c xs hm
    · cases hm
  · rcases snoc_parts hi with hi | ⟨e1, hi⟩ <;> rcases snoc_parts hj with hj | ⟨e2, hj⟩
    · exact h.once i j m hi hj
    · cases hj
      exact (hn i hi).elim
    · cases hi
      exact (hn j hj).elim
    · rw [e1, e2]

theorem ndOk_app {sig : List Sy} {L : List Nd} (h : NdOk sig L) {c : Int} {xs : List Nat} (h0 : ¬ c < 0) (h1 : c.toNat < sig.length) (h2 : xs.length = arN sig c) (hx : ∀ x ∈ xs, x < L.length) : NdOk sig (L ++ [.app c xs]) := by
  refine ⟨fun i m hm => ?_, fun i c' xs' hm => ?_, fun i c' xs' hm => ?_, fun i j m hi hj => ?_⟩
  · rcases snoc_parts hm with hm | ⟨_, hm⟩
    · exact h.num i m hm
    · cases hm
  · rcases snoc_parts hm with hm | ⟨_, hm⟩
    · exact h.sym i c' xs' hm
    · cases hm
      exact ⟨h0, h1, h2⟩
  · rcases snoc_parts hm with hm | ⟨e, hq⟩
    · exact h.ahead i c' xs' hm
    · cases hq
      rw [e]
      exact hx
  · rcases snoc_parts hi with hi | ⟨_, hi⟩
    · rcases snoc_parts hj with hj | ⟨_, hj⟩
      · exact h.once i j m hi hj
      · cases hj
    · cases hi

theorem tmC_ext {L L' : List Nd} (he : ∀ (j : Nat) (d : Nd), L[j]? = some d → L'[j]? = some d) {i : Nat} {t : List Int} (h : TmC L id id i t) : TmC L' id id i t := by
  induction h with
  | var h => exact .var (he _ _ h)
  | app h hl _ ih => exact .app (he _ _ h) hl ih

theorem tmC_lt {L : List Nd} {i : Nat} {t : List Int} (h : TmC L id id i t) : i < L.length := by
  cases h with
  | var h => exact (List.getElem?_eq_some_iff.1 h).1
  | app h _ _ => exact (List.getElem?_eq_some_iff.1 h).1

theorem Bel.ext {L L' : List Nd} (he : ∀ (j : Nat) (d : Nd), L[j]? = some d → L'[j]? = some d) {r i : Nat} (h : Bel L r i) : Bel L' r i := by
  induction h with
  | here => exact .here _
  | arg _ hx hy ih => exact .arg ih (he _ _ hx) hy

theorem Bel.trans {L : List Nd} {r x y : Nat} (h : Bel L r x) (k : Bel L x y) : Bel L r y := by
  induction k with
  | here => exact h
  | arg _ hx hy ih => exact .arg ih hx hy

/-- Nodes grown for a row's end u, of L the first n0 are older: the stack has the terms that u is made of, the first one last. -/
structure Gr (sig : List Sy) (n0 : Nat) (L : List Nd) (st : List Nat) (u : List Int) : Prop where
  ok : NdOk sig L
  len : st.length = (growR sig u).length
  tms : ∃ ts : List (List Int), ts.length = st.length ∧ (∀ (k x : Nat) (t : List Int), st[k]? = some x → ts[k]? = some t → TmC L id id x t) ∧ ts.reverse.flatten = u
  cov : ∀ i, n0 ≤ i → i < L.length → ∃ x ∈ st, Bel L x i
  few : L.length ≤ n0 + u.length

theorem gr_start {sig : List Sy} {L : List Nd} (h : NdOk sig L) : Gr sig L.length L [] [] :=
  ⟨h, rfl, ⟨[], rfl, fun k x t h => (by simp at h), rfl⟩, fun i h1 h2 => by omega, by simp⟩

theorem Gr.lt {sig : List Sy} {n0 : Nat} {L : List Nd} {st : List Nat} {u : List Int} (h : Gr sig n0 L st u) {x : Nat} (hx : x ∈ st) : x < L.length := by
  obtain ⟨ts, hl, ht, _⟩ := h.tms
  obtain ⟨k, hk⟩ := List.getElem?_of_mem hx
  have hkl := (List.getElem?_eq_some_iff.1 hk).1
  exact tmC_lt (ht k x _ hk (List.getElem?_eq_getElem (by omega)))

theorem growStep_len (sig : List Sy) (u : List Int) (c : Int) : (growR sig (c :: u)).length = if c < 0 then (growR sig u).length + 1 else (growR sig u).length - arN sig c + 1 := by
  show (growStep sig (growR sig u) c).length = _
  unfold growStep
  split
  · simp
  · rw [List.length_append, List.length_take]
    simp only [List.length_cons, List.length_nil]
    omega

/-- A variable that has its node. -/
theorem gr_old {sig : List Sy} {n0 : Nat} {L : List Nd} {st : List Nat} {u : List Int} (h : Gr sig n0 L st u) {i : Nat} {n : Int} (hi : L[i]? = some (Nd.var n)) : Gr sig n0 L (st ++ [i]) ((-1 - n) :: u) := by
  have hn := h.ok.num i n hi
  obtain ⟨ts, hl, ht, hf⟩ := h.tms
  refine ⟨h.ok, ?_, ⟨ts ++ [[-1 - n]], by simp [hl], fun k x t hk hkt => ?_, by simp [hf]⟩, fun j h1 h2 => ?_, ?_⟩
  · rw [growStep_len, if_pos (by omega), List.length_append, h.len]
    rfl
  · rcases snoc_parts hk with hk | ⟨e, rfl⟩
    · rcases snoc_parts hkt with hkt | ⟨e2, _⟩
      · exact ht k x t hk hkt
      · have := (List.getElem?_eq_some_iff.1 hk).1
        omega
    · rcases snoc_parts hkt with hkt | ⟨_, rfl⟩
      · have := (List.getElem?_eq_some_iff.1 hkt).1
        omega
      · exact .var hi
  · obtain ⟨x, hx, hb⟩ := h.cov j h1 h2
    exact ⟨x, List.mem_append_left _ hx, hb⟩
  · have := h.few
    simp only [List.length_cons]
    omega

/-- More nodes. -/
theorem gr_more {sig : List Sy} {n0 : Nat} {L : List Nd} {st : List Nat} {u : List Int} (h : Gr sig n0 L st u) {d : Nd} (hk : NdOk sig (L ++ [d])) {st' : List Nat} {c : Int} (hl : st'.length = (growR sig (c :: u)).length) (ht : ∃ ts : List (List Int), ts.length = st'.length ∧ (∀ (k x : Nat) (t : List Int), st'[k]? = some x → ts[k]? = some t → TmC (L ++ [d]) id id x t) ∧ ts.reverse.flatten = c :: u)
    (hc : ∀ x ∈ st, ∃ y ∈ st', Bel (L ++ [d]) y x) (hn : L.length ∈ st') : Gr sig n0 (L ++ [d]) st' (c :: u) := by
  refine ⟨hk, hl, ht, fun i h1 h2 => ?_, ?_⟩
  · by_cases e : i < L.length
    · obtain ⟨x, hx, hb⟩ := h.cov i h1 e
      obtain ⟨y, hy, hb2⟩ := hc x hx
      exact ⟨y, hy, hb2.trans (hb.ext fun j d hj => snoc_old hj)⟩
    · rw [List.length_append, List.length_singleton] at h2
      obtain rfl : i = L.length := by omega
      exact ⟨_, hn, .here _⟩
  · have := h.few
    rw [List.length_append]
    simp only [List.length_cons, List.length_nil]
    omega

/-- A variable met first. -/
theorem gr_new {sig : List Sy} {n0 : Nat} {L : List Nd} {st : List Nat} {u : List Int} (h : Gr sig n0 L st u) {n : Int} (h0 : 0 ≤ n) (h1 : n < 1048576) (hn : ∀ i : Nat, L[i]? ≠ some (Nd.var n)) : Gr sig n0 (L ++ [.var n]) (st ++ [L.length]) ((-1 - n) :: u) := by
  obtain ⟨ts, hl, ht, hf⟩ := h.tms
  refine gr_more h (ndOk_var h.ok h0 h1 hn) ?_ ⟨ts ++ [[-1 - n]], by simp [hl], fun k x t hk hkt => ?_, by simp [hf]⟩ (fun x hx => ⟨x, List.mem_append_left _ hx, .here _⟩) (by simp)
  · rw [growStep_len, if_pos (by omega), List.length_append, h.len]
    rfl
  · rcases snoc_parts hk with hk | ⟨e, rfl⟩
    · rcases snoc_parts hkt with hkt | ⟨e2, _⟩
      · exact tmC_ext (fun j d hj => snoc_old hj) (ht k x t hk hkt)
      · have := (List.getElem?_eq_some_iff.1 hk).1
        omega
    · rcases snoc_parts hkt with hkt | ⟨_, rfl⟩
      · have := (List.getElem?_eq_some_iff.1 hkt).1
        omega
      · exact .var (snoc_new _ _)

/-- A symbol: its arguments leave the stack. -/
theorem gr_app {sig : List Sy} {n0 : Nat} {L : List Nd} {st : List Nat} {u : List Int} (h : Gr sig n0 L st u) {c : Int} (h0 : ¬ c < 0) (h1 : c.toNat < sig.length) (h2 : arN sig c ≤ st.length) :
    Gr sig n0 (L ++ [.app c (st.drop (st.length - arN sig c)).reverse]) (st.take (st.length - arN sig c) ++ [L.length]) (c :: u) := by
  obtain ⟨ts, hl, ht, hf⟩ := h.tms
  generalize hr : st.length - arN sig c = r
  have hrl : r ≤ st.length := by omega
  have htl : (st.take r).length = r := by rw [List.length_take]; omega
  refine gr_more h (ndOk_app h.ok h0 h1 (by rw [List.length_reverse, List.length_drop]; omega) (fun x hx => h.lt (List.mem_of_mem_drop (List.mem_reverse.1 hx)))) ?_
    ⟨ts.take r ++ [c :: (ts.drop r).reverse.flatten], by rw [List.length_append, List.length_append, List.length_take, List.length_take, hl]; rfl, fun k x t hk hkt => ?_, ?_⟩ (fun x hx => ?_) (by simp)
  · rw [growStep_len, if_neg h0, List.length_append, htl, ← h.len, hr]
    rfl
  · have htr : (ts.take r).length = r := by rw [List.length_take]; omega
    rcases snoc_parts hk with hk | ⟨e, rfl⟩
    · rcases snoc_parts hkt with hkt | ⟨e2, _⟩
      · have hkr := (List.getElem?_eq_some_iff.1 hk).1
        rw [htl] at hkr
        rw [List.getElem?_take_of_lt hkr] at hk hkt
        exact tmC_ext (fun j d hj => snoc_old hj) (ht k x t hk hkt)
      · have := (List.getElem?_eq_some_iff.1 hk).1
        omega
    · rcases snoc_parts hkt with hkt | ⟨_, rfl⟩
      · have := (List.getElem?_eq_some_iff.1 hkt).1
        omega
      · refine .app (snoc_new _ _) (by simp [hl]) (fun j y t hy hyt => ?_)
        have hj := (List.getElem?_eq_some_iff.1 hy).1
        rw [List.length_reverse, List.length_drop] at hj
        rw [List.getElem?_reverse (by rw [List.length_drop]; omega), List.length_drop, List.getElem?_drop] at hy hyt
        rw [hl] at hyt
        exact tmC_ext (fun j d hj => snoc_old hj) (ht _ y t hy hyt)
  · rw [List.reverse_append, List.flatten_append]
    simp only [List.reverse_cons, List.reverse_nil, List.nil_append, List.flatten_cons, List.flatten_nil, List.append_nil, List.cons_append]
    rw [← List.flatten_append, ← List.reverse_append, List.take_append_drop, hf]
  · rw [← List.take_append_drop r st] at hx
    rcases List.mem_append.1 hx with hx | hx
    · exact ⟨x, List.mem_append_left _ hx, .here _⟩
    · exact ⟨L.length, by simp, .arg (.here _) (snoc_new _ _) (List.mem_reverse.2 hx)⟩

/-- The whole of a right term: one node. -/
theorem gr_done {sig : List Sy} (ha : ArOk sig) {n0 : Nat} {L : List Nd} {st : List Nat} {u : List Int} (h : Gr sig n0 L st u) (hu : rowE sig u = 0) : ∃ r, st = [r] ∧ TmC L id id r u ∧ ∀ i, n0 ≤ i → i < L.length → Bel L r i := by
  obtain ⟨T, hT, _⟩ := grow_one ha hu
  have hl := h.len
  rw [hT] at hl
  obtain ⟨r, rfl⟩ := List.length_eq_one_iff.1 hl
  obtain ⟨ts, h1, h2, h3⟩ := h.tms
  obtain ⟨t, rfl⟩ := List.length_eq_one_iff.1 h1
  simp at h3
  subst h3
  refine ⟨r, rfl, h2 0 r t rfl rfl, fun i hi1 hi2 => ?_⟩
  obtain ⟨x, hx, hb⟩ := h.cov i hi1 hi2
  rw [List.mem_singleton] at hx
  rw [← hx]
  exact hb

end Go.Proofs.YtoapgbaibpkckaaGreatDoor

/- When two terms unify, by their nodes: plain. -/
namespace Go.Proofs.YtoapgbaibpkckaaGreatDoor

/-- Some binds make two terms one. -/
def Unif (sig : List Sy) (a b : List Int) : Prop := ∃ f : Int → Option (List Int), (∀ n u, f n = some u → rowE sig u = 0) ∧ laidL f a = laidL f b

/-- Each node stands for a term. -/
theorem tmC_all {sig : List Sy} {L : List Nd} (hL : NdOk sig L) : ∀ (m i : Nat), i < m → i < L.length → ∃ t, TmC L id id i t
  | 0, i, h, _ => by omega
  | m + 1, i, h, hi => by
    have hLi : L[i]? = some L[i] := List.getElem?_eq_getElem hi
    cases hd : L[i] with
    | var n => exact ⟨_, .var (by rw [← hd]; exact hLi)⟩
    | app c xs =>
      have hx : L[i]? = some (Nd.app c xs) := by rw [← hd]; exact hLi
      refine ⟨c :: (xs.map (vC L id id)).flatten, .app hx (by rw [List.length_map]) (fun k x t hk ht => ?_)⟩
      have hxi := hL.ahead i c xs hx x (List.mem_of_getElem? hk)
      obtain ⟨t', ht'⟩ := tmC_all hL m x (by omega) (by omega)
      rw [List.getElem?_map, hk, Option.map_some, Option.some.injEq] at ht
      rw [← ht, vC_eq (root := id) (face := id) (i := x) (by exact ht')]
      exact ht'

theorem laid_sym {f : Int → Option (List Int)} {c : Int} (hc : ¬ c < 0) (u : List Int) : laidL f (c :: u) = c :: laidL f u := by
  unfold laidL
  rw [List.flatMap_cons]
  unfold piece
  rw [if_neg hc]
  rfl

/-- Where no valuation makes the two nodes one, no binds make the two terms one. -/
theorem unif_no {sig : List Sy} (ha : ArOk sig) {L : List Nd} (hL : NdOk sig L) {a b : List Int} {ra rb : Nat} (hta : TmC L id id ra a) (htb : TmC L id id rb b) (hno : ∀ V, Val sig L V → V ra ≠ V rb) : ¬ Unif sig a b := by
  rintro ⟨f, hf, he⟩
  have hcl : Closed L id id := closed_of (wait_start L [])
  have hT : ∀ i, i < L.length → ∃ t, TmC L id id (id i) t := fun i hi => tmC_all hL (i + 1) i (by omega) hi
  have hV := vC_val ha hL (cl_start hL) hcl hT
  refine hno (fun i => laidL f (vC L id id i)) (fun i hi => ⟨row_laid ha hf (hV i hi).1, fun c xs hx => ?_⟩) ?_
  · show laidL f (vC L id id i) = _
    rw [(hV i hi).2 c xs hx, laid_sym (hL.sym i c xs hx).1, laid_flat, List.map_map]
    rfl
  · show laidL f (vC L id id ra) = laidL f (vC L id id rb)
    rw [vC_eq (root := id) (face := id) (i := ra) (by exact hta), vC_eq (root := id) (face := id) (i := rb) (by exact htb)]
    exact he

/-- What the classes become. -/
structure Sol6 (sig : List Sy) (L : List Nd) (root face : Nat → Nat) (ra rb : Nat) : Prop where
  ok : ClOk L root face
  clo : Closed L root face
  tm : ∀ i, i < L.length → ∃ t, TmC L root face (root i) t
  one : root ra = root rb
  jn : ∀ V, Val sig L V → V ra = V rb → Slv L.length root V

/-- The binds of the classes make the two terms one. -/
theorem unif_yes {sig : List Sy} (ha : ArOk sig) {L : List Nd} (hL : NdOk sig L) {a b : List Int} {ra rb : Nat} {root face : Nat → Nat} (hta : TmC L id id ra a) (htb : TmC L id id rb b) (h : Sol6 sig L root face ra rb) :
    (∀ n u, gV L (vC L root face) n = some u → rowE sig u = 0) ∧ laidL (gV L (vC L root face)) a = vC L root face ra ∧ laidL (gV L (vC L root face)) b = vC L root face rb ∧ vC L root face ra = vC L root face rb := by
  have hV := vC_val ha hL h.ok h.clo h.tm
  have hs0 : Slv L.length id (vC L root face) := fun i _ => rfl
  refine ⟨fun n u hu => ?_, (slv_laid hL (cl_start hL) hV hs0 hta (tmC_lt hta) rfl).symm, (slv_laid hL (cl_start hL) hV hs0 htb (tmC_lt htb) rfl).symm, ?_⟩
  · unfold gV at hu
    split at hu
    · rename_i h9
      cases hu
      exact (hV _ (List.getElem?_eq_some_iff.1 (Classical.choose_spec h9)).1).1
    · cases hu
  · have h1 := vC_slv (face := face) h.ok ra (tmC_lt hta)
    have h2 := vC_slv (face := face) h.ok rb (tmC_lt htb)
    rw [h1, h2, h.one]

theorem unif_iff_yes {sig : List Sy} (ha : ArOk sig) {L : List Nd} (hL : NdOk sig L) {a b : List Int} {ra rb : Nat} {root face : Nat → Nat} (hta : TmC L id id ra a) (htb : TmC L id id rb b) (h : Sol6 sig L root face ra rb) : Unif sig a b := by
  obtain ⟨h1, h2, h3, h4⟩ := unif_yes ha hL hta htb h
  exact ⟨_, h1, by rw [h2, h3, h4]⟩

end Go.Proofs.YtoapgbaibpkckaaGreatDoor
