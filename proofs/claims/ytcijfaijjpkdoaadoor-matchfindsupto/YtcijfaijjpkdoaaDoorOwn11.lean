/- Texts of the proof, one behind the other. -/
import Derived.Test.YtcijfaijjpkdoaaDoorOwn10
import Derived.Deep.LoopGhost
import Derived.Test.YtcijfaijjpkdoaaDoorOwn9
import Derived.Test.YtcijfaijjpkdoaaDoorOwn8
import Derived.Test.YtcijfaijjpkdoaaDoorOwn4
/- boundRows walked. -/
namespace Go.Proofs.YtcijfaijjpkdoaaDoor
open Go.RowKit Go.Maps Go.BigFrame

theorem snoc_cases {α : Type} (l : List α) : l = [] ∨ ∃ xs x, l = xs ++ [x] := by
  rcases List.eq_nil_or_concat l with h | ⟨xs, x, h⟩
  · exact .inl h
  · exact .inr ⟨xs, x, by rw [h, List.concat_eq_append]⟩

/-- The map's rows. -/
def Lr (w : World) (L : List (Int × Value)) (R : List (Int × List Int)) : Prop := ∀ n, (∀ v, L.lookup n = some v → ∃ u, R.lookup n = some u ∧ Is w v u) ∧ (L.lookup n = none → R.lookup n = none)

theorem Lr.cons {w : World} {L : List (Int × Value)} {R : List (Int × List Int)} (h : Lr w L R) {n : Int} {s : Value} {u : List Int} (hs : Is w s u) : Lr w ((n, s) :: L) ((n, u) :: R) := fun m => by
  rw [List.lookup_cons, List.lookup_cons]
  by_cases e : m = n
  · subst e
    simp only [beq_self_eq_true]
    exact ⟨fun v hv => by cases hv; exact ⟨u, rfl, hs⟩, fun hv => by cases hv⟩
  · rw [show (m == n) = false by simpa using e]
    exact h m

theorem Is.inj {w : World} {v : Value} {xs ys : List Int} (h : Is w v xs) (k : Is w v ys) : xs = ys := by
  obtain ⟨ao, cap, rfl, _, _, hx⟩ := h.flatI
  have hl : xs.length = ys.length := Row.len k
  refine List.ext_getElem? fun j => ?_
  by_cases hj : j < xs.length
  · obtain ⟨g, off, x, e, h1, h2⟩ := hx j hj
    obtain ⟨g', off', y, e', h1', h2', _⟩ := k.at (k := j) (by omega)
    rw [e] at e'
    simp only [Option.some.injEq, Addr.mk.injEq, and_true] at e'
    obtain ⟨rfl, rfl⟩ := e'
    rw [h2] at h2'
    cases h2'
    rw [h1, h1']
  · rw [List.getElem?_eq_none (by omega), List.getElem?_eq_none (by omega)]

/-- What is known of a pattern's variables: right rows, of variables that it has. -/
def Ky (sig : List Sy) (p : List Int) (R : List (Int × List Int)) : Prop := ∀ n u, R.lookup n = some u → rowE sig u = 0 ∧ ∃ c ∈ p, c < 0 ∧ n = -1 - c

theorem Ky.cons {sig : List Sy} {p : List Int} {R : List (Int × List Int)} (h : Ky sig p R) {c : Int} {u : List Int} (hu : rowE sig u = 0) (hc : c ∈ p) (h0 : c < 0) : Ky sig p ((-1 - c, u) :: R) := fun n v hv => by
  rw [List.lookup_cons] at hv
  by_cases e : n = -1 - c
  · subst e
    simp only [beq_self_eq_true, Option.some.injEq] at hv
    subst hv
    exact ⟨hu, c, hc, h0, rfl⟩
  · rw [show (n == -1 - c) = false by simpa using e] at hv
    exact h n v hv

theorem OwP.kept {w w' : World} {base : Nat} {v : Value} {xs : List (Value × Value)} {row : Option Nat} (h : OwP w base v xs) (hg : w.grownBy w' row) (hr : v.ownBlock = none ∨ v.ownBlock ≠ row) : OwP w' base v xs := by
  refine ⟨h.1, ?_⟩
  rcases h.2 with h | ⟨g, cap, cur, rfl, hb, hgg, r⟩
  · exact .inl h
  · refine .inr ⟨g, cap, cur, rfl, hb, (hg.block g (Array.getElem?_eq_some_iff.1 hgg).1 ?_).trans hgg, r⟩
    rcases hr with hr | hr
    · cases hr
    · exact hr

theorem OwP.later {w w' : World} {base : Nat} {v : Value} {xs : List (Value × Value)} (h : OwP w base v xs) (hb : Below w.heap.size w w') : OwP w' base v xs :=
  h.kept (row := none) ⟨hb.os, hb.tape, hb.output, hb.size, fun k hk _ => hb.block k hk⟩ (by cases hv : v.ownBlock <;> simp)

theorem len_wait : ∀ ds : List Pr, ds.length ≤ wait ds
  | [] => Nat.zero_le _
  | d :: ds => by
    have h1 := len_wait ds
    have h2 := d.P.pos
    have h3 : wait (d :: ds) = d.P.size + wait ds := by simp [wait]
    rw [List.length_cons, h3]
    omega

theorem TPl.one {w : World} {A : Nat → Prop} {S : Nat → Nat → Value} {vs : List Value} {ts : List Tr} {p : Nat} (h : TPl w A S vs ts p) : ∀ u ∈ vs, u.oneCell' = true := fun u hu => by
  obtain ⟨k, hk⟩ := List.getElem?_of_mem hu
  have hl := h.len
  have hlt := (List.getElem?_eq_some_iff.1 hk).1
  exact (h.get hk (List.getElem?_eq_getElem (by omega : k < ts.length))).ifv.one

theorem pr_one {w : World} {A : Nat → Prop} {S1 S2 : Nat → Nat → Value} {ys : List (Value × Value)} {ts1 ts2 : List Tr} {p1 p2 : Nat} (h1 : TPl w A S1 (ys.map (·.1)) ts1 p1) (h2 : TPl w A S2 (ys.map (·.2)) ts2 p2) : ∀ u ∈ prC ys, u.oneCell' = true := fun u hu => by
  obtain ⟨x, hx, hu⟩ := List.mem_flatMap.1 hu
  simp only [List.mem_cons, List.not_mem_nil, or_false] at hu
  rcases hu with rfl | rfl
  · exact h1.one _ (List.mem_map.2 ⟨x, hx, rfl⟩)
  · exact h2.one _ (List.mem_map.2 ⟨x, hx, rfl⟩)

theorem own_src {w : World} {base : Nat} {v : Value} {ys : List (Value × Value)} (h : OwP w base v ys) : ∃ ao cap, v = .slice ao ys.length cap ∧ (ys = [] ∨ ∃ g off, ao = some ⟨g, off, none⟩ ∧ ∀ (j : Nat) (u : Value), (prC ys)[j]? = some u → w.cell? ⟨g, off + j, none⟩ = some u) := by
  rcases h.2 with ⟨h8, h9⟩ | ⟨g, cap, cur, rfl, _⟩
  · exact ⟨none, 0, by rw [h8, h9], .inl (List.eq_nil_of_length_eq_zero h9)⟩
  · refine ⟨_, cap, rfl, .inr ⟨g, 0, rfl, fun j u hj => ?_⟩⟩
    have hlt := (List.getElem?_eq_some_iff.1 hj).1
    rw [prC_len] at hlt
    rw [Nat.zero_add, World.ownsRow.cellAt h j (by omega)]
    exact hj

/-- What binds must do: those that are known, and the pairs that wait. -/
def Eqv (sig : List Sy) (p t : List Int) (R : List (Int × List Int)) (ds : List Pr) : Prop := ∀ f, Rt sig f → (Sm f p t ↔ (∀ n u, R.lookup n = some u → f n = some u) ∧ ∀ d ∈ ds, Sm f (d.pr p) (d.tr t))

theorem Eqv.bind {sig : List Sy} {p t : List Int} {R : List (Int × List Int)} {es : List Pr} {d : Pr} {n : Int} (h : Eqv sig p t R (es ++ [d])) (hd : ∀ f, Sm f (d.pr p) (d.tr t) ↔ f n = some (d.tr t)) (hn : R.lookup n = none) : Eqv sig p t ((n, d.tr t) :: R) es := fun f hf => by
  rw [h f hf]
  constructor
  · rintro ⟨h1, h2⟩
    refine ⟨fun m u hm => ?_, fun e he => h2 e (by simp [he])⟩
    rw [List.lookup_cons] at hm
    by_cases e : m = n
    · subst e
      simp only [beq_self_eq_true, Option.some.injEq] at hm
      rw [← hm]
      exact (hd f).1 (h2 d (by simp))
    · rw [show (m == n) = false by simpa using e] at hm
      exact h1 m u hm
  · rintro ⟨h1, h2⟩
    have hnn : f n = some (d.tr t) := h1 n _ (by rw [List.lookup_cons]; simp)
    refine ⟨fun m u hm => h1 m u ?_, fun e he => ?_⟩
    · rw [List.lookup_cons]
      by_cases e : m = n
      · subst e
        rw [hn] at hm
        cases hm
      · rw [show (m == n) = false by simpa using e]
        exact hm
    · rcases List.mem_append.1 he with he | he
      · exact h2 e he
      · rw [List.mem_singleton] at he
        subst he
        exact (hd f).2 hnn

theorem Eqv.known {sig : List Sy} {p t : List Int} {R : List (Int × List Int)} {es : List Pr} {d : Pr} {n : Int} (h : Eqv sig p t R (es ++ [d])) (hd : ∀ f, Sm f (d.pr p) (d.tr t) ↔ f n = some (d.tr t)) (hn : R.lookup n = some (d.tr t)) : Eqv sig p t R es := fun f hf => by
  rw [h f hf]
  constructor
  · rintro ⟨h1, h2⟩
    exact ⟨h1, fun e he => h2 e (by simp [he])⟩
  · rintro ⟨h1, h2⟩
    refine ⟨h1, fun e he => ?_⟩
    rcases List.mem_append.1 he with he | he
    · exact h2 e he
    · rw [List.mem_singleton] at he
      subst he
      exact (hd f).2 (h1 n _ hn)

theorem Eqv.clash {sig : List Sy} {p t : List Int} {R : List (Int × List Int)} {es : List Pr} {d : Pr} {n : Int} {u : List Int} (h : Eqv sig p t R (es ++ [d])) (hd : ∀ f, Sm f (d.pr p) (d.tr t) ↔ f n = some (d.tr t)) (hn : R.lookup n = some u) (hu : u ≠ d.tr t) : ∀ f, Rt sig f → ¬ Sm f p t := fun f hf hs => by
  obtain ⟨h1, h2⟩ := (h f hf).1 hs
  have h3 := h1 n u hn
  have h4 := (hd f).1 (h2 d (by simp))
  rw [h3] at h4
  cases h4
  exact hu rfl

theorem Eqv.none {sig : List Sy} {p t : List Int} {R : List (Int × List Int)} {es : List Pr} {d : Pr} (h : Eqv sig p t R (es ++ [d])) (hd : ∀ f, ¬ Sm f (d.pr p) (d.tr t)) : ∀ f, Rt sig f → ¬ Sm f p t := fun f hf hs => hd f (((h f hf).1 hs).2 d (by simp))

theorem Eqv.open {sig : List Sy} {p t : List Int} {R : List (Int × List Int)} {es gs : List Pr} {d : Pr} (h : Eqv sig p t R (es ++ [d])) (hd : ∀ f, Rt sig f → (Sm f (d.pr p) (d.tr t) ↔ ∀ e ∈ gs, Sm f (e.pr p) (e.tr t))) : Eqv sig p t R (es ++ gs) := fun f hf => by
  rw [h f hf]
  constructor
  · rintro ⟨h1, h2⟩
    refine ⟨h1, fun e he => ?_⟩
    rcases List.mem_append.1 he with he | he
    · exact h2 e (by simp [he])
    · exact (hd f hf).1 (h2 d (by simp)) e he
  · rintro ⟨h1, h2⟩
    refine ⟨h1, fun e he => ?_⟩
    rcases List.mem_append.1 he with he | he
    · exact h2 e (by simp [he])
    · rw [List.mem_singleton] at he
      subst he
      exact (hd f hf).2 fun e he => h2 e (by simp [he])

set_option maxRecDepth 100000 in
set_option maxHeartbeats 3200000 in
theorem boundRows_any (sig : List Sy) (ha : ArOk sig) (b1 o1 c1 b2 o2 c2 : Nat) (p t : List Int) (A : Nat → Prop) (v1 v2 : Value) (P T : Tr) (w : World) (hp : Is w (.slice (some ⟨b1, o1, none⟩) p.length c1) p) (ht : Is w (.slice (some ⟨b2, o2, none⟩) t.length c2) t)
    (h1 : TP w A (cdS b1 o1 c1) v1 P 0) (h2 : TP w A (cdS b2 o2 c2) v2 T 0) (hA : ∀ b, A b → b < w.heap.size) (hw1 : Wf sig p P 0) (hw2 : Wf sig t T 0) (hs1 : P.size = p.length) (hs2 : T.size = t.length) (hl : p.length * 32 ≤ 140737488351232) :
    Calls Tryd.prog 29 #[v1, v2] w fun e w' => Below w.heap.size w w' ∧ ((e = .returned (.tuple #[.map none, .bool false]) ∧ ∀ f, Rt sig f → ¬ Sm f p t) ∨ ∃ L R, e = .returned (.tuple #[.map (some w.heap.size), .bool true]) ∧ MapV w' w.heap.size L ∧ Lr w L R ∧ Ky sig p R ∧ Sm (fun n => R.lookup n) p t) := by
  have hmm := @run_makeMap Tryd.prog
  have HA := hid hA
  have HAr := hid ha
  have HP := hid hp
  have HT := hid ht
  have H1 := hid h1
  have H2 := hid h2
  have HW1 := hid hw1
  have HW2 := hid hw2
  obtain ⟨y1, z1, hy1⟩ := h1.ifv
  obtain ⟨y2, z2, hy2⟩ := h2.ifv
  subst hy1
  subst hy2
  have HS1 := hid hs1
  have HS2 := hid hs2
  clear hA ha hp ht h1 h2 hw1 hw2 hs1 hs2
  go_enter Tryd.func29, Tryd.ntmps29
  go_wp2
  go_loopg [7] P.size (fun k x wr => ∃ (PL : List (Value × Value)) (ds : List Pr) (L : List (Int × Value)) (R : List (Int × List Int)), OwP wr (w.heap.size + 1) x PL ∧ PrV w A (cdS b1 o1 c1) (cdS b2 o2 c2) PL ds ∧ (∀ d ∈ ds, d.ok sig p t) ∧ MapV wr w.heap.size L ∧ Lr w L R ∧ Eqv sig p t R ds ∧ Ky sig p R ∧ L.length + wait ds ≤ P.size ∧ wait ds ≤ k ∧ Below w.heap.size w wr)
  case atStart =>
    refine ⟨[(.iface y1 z1, .iface y2 z2)], [⟨P, 0, T, 0⟩], [], [], ?_, ⟨⟨H1.out, H2.out⟩, trivial⟩, fun d hd => ?_, (MapV.made w).later (below_alloc _), fun n => ⟨fun v hv => (by cases hv), fun _ => rfl⟩, fun f _ => ?_, fun n u hu => (by cases hu), ?_, ?_, below_step (below_alloc _) (below_alloc _)⟩
    · refine ⟨rfl, .inr ⟨w.heap.size + 1, 1, #[.iface y1 z1, .iface y2 z2], rfl, Nat.le_refl _, ?_, Nat.le_refl _, by simp [maxLen], rfl, rfl⟩⟩
      have := heap_alloc_new (w.alloc (.map #[] 0)) (.cells #[.iface y1 z1, .iface y2 z2] 76)
      simpa using this
    · rw [List.mem_singleton] at hd
      subst hd
      exact ⟨HW1.out, HW2.out⟩
    · have e1 : (⟨P, 0, T, 0⟩ : Pr).pr p = p := by unfold Pr.pr; simp only [List.drop_zero]; rw [HS1.out, List.take_length]
      have e2 : (⟨P, 0, T, 0⟩ : Pr).tr t = t := by unfold Pr.tr; simp only [List.drop_zero]; rw [HS2.out, List.take_length]
      refine ⟨fun h => ⟨fun n u hu => (by cases hu), fun d hd => ?_⟩, fun h => ?_⟩
      · rw [List.mem_singleton] at hd
        subst hd
        rw [e1, e2]
        exact h
      · have := h.2 _ (List.mem_singleton.2 rfl)
        rw [e1, e2] at this
        exact this
    · simp [wait]
    · simp [wait]
  case round =>
    obtain ⟨PL, ds, L, R, how, hprv, hok, hmap, hlr, heq, hky, hcnt, hwk, hbl⟩ := hrel
    have HPrv := hid hprv
    have HOk := hid hok
    have HMap := hid hmap
    have HLr := hid hlr
    have HEq := hid heq
    have HKy := hid hky
    have HB := hid hbl
    have HS1n := HS1.out
    clear hprv hok hmap hlr heq hky hmm H1 H2 HW1 HW2
    rcases snoc_cases PL with rfl | ⟨xs, x, rfl⟩
    · obtain ⟨ao, cp, rfl⟩ : ∃ ao cp, u7 = .slice ao 0 cp := by
        rcases how.2 with ⟨h8, _⟩ | ⟨g8, c8, _, h8, _⟩
        · exact ⟨_, _, h8⟩
        · exact ⟨_, _, h8⟩
      have HSm : Hid (Sm (fun n => R.lookup n) p t) := by
        cases ds with
        | nil => exact (HEq.out _ (fun n u hu => (HKy.out n u hu).1)).2 ⟨fun _ _ h => h, fun d hd => by cases hd⟩
        | cons d ds => exact HPrv.out.elim
      clear how HEq HPrv HOk hcnt hwk
      go_wp2
      go_ret2
      exact ⟨HB.out, .inr ⟨L, R, rfl, HMap.out, HLr.out, HKy.out, HSm.out⟩⟩
    · obtain ⟨xa, xb⟩ := x
      obtain ⟨es, d, rfl, hpv, htp1, htp2⟩ := HPrv.out.pop
      obtain ⟨g, cp, hv, hge, hcp1, hcp2, hca, hcb⟩ := own_lastP how (k := xs.length) (p := (xa, xb)) (by simp)
      have hll : (xs ++ [(xa, xb)]).length = xs.length + 1 := by simp
      rw [hll] at hv hcp1
      subst hv
      have hct := own_cutP (k := xs.length) (by rw [hll]; exact how) (by rw [hll]; omega)
      rw [List.take_left] at hct
      have HCt := hid hct
      have hdk := HOk.out d (by simp)
      have HDk := hid hdk
      have HPv := hid hpv
      have HT1 := hid htp1
      have HT2 := hid htp2
      have HOe : Hid (∀ e ∈ es, e.ok sig p t) := fun e he => HOk.out e (by simp [he])
      have hwd : wait (es ++ [d]) = wait es + d.P.size := by rw [wait_app]; simp [wait]
      rw [hwd] at hcnt hwk
      have hw1 : IntKind.i64.wrap ((xs.length : Int) + 1 - 1) = (xs.length : Int) := by rw [IntWalk.i64_in _ ⟨by omega, by omega⟩]; omega
      have hw1' : IntKind.i64.wrap (xs.length : Int) = (xs.length : Int) := IntWalk.i64_in _ ⟨by omega, by omega⟩
      have hxc : xs.length ≤ cp := by omega
      have hsz1 := hdk.1.size
      have hsz2 := hdk.2.size
      have hpos1 := d.P.pos
      have hpos2 := d.T.pos
      have hca' : wr.cell? ⟨g, xs.length * 2, none⟩ = some xa := hca
      have hcb' : wr.cell? ⟨g, xs.length * 2 + 1, none⟩ = some xb := hcb
      clear how hct hpv hdk HOk HPrv hwd hca hcb
      cases hP : d.P with
      | var =>
        obtain ⟨c, hpc, hc0, hsat⟩ := pr_var HDk.out hP
        rw [hP] at htp1 HT1
        unfold TP cdS at htp1
        subst htp1
        have has := as_varM
        obtain ⟨y3, z3, hy3⟩ := htp2.ifv
        subst hy3
        have hqp : d.q1 < p.length := by omega
        have hqt : d.q2 < t.length := by omega
        obtain ⟨b9, o9, c9, he9, hpc9, hcc0, hcr1, hcr2⟩ := HP.out.at hqp
        simp only [Option.some.injEq, Addr.mk.injEq, and_true] at he9
        obtain ⟨rfl, rfl⟩ := he9
        rw [hpc] at hpc9
        cases hpc9
        have hIu := HT.out.mid hqt hsz2
        obtain ⟨u, hu⟩ : ∃ u, u = d.tr t := ⟨_, rfl⟩
        have HU := hid hu
        obtain ⟨N, hN⟩ : ∃ N, N = d.T.size := ⟨_, rfl⟩
        have HN := hid hN
        rw [← hN] at hIu
        have hIu2 : Is w (.slice (some ⟨b2, o2 + d.q2, none⟩) N (c2 - d.q2)) u := by rw [hu]; unfold Pr.tr; rw [← hN]; exact hIu
        have hbm0 := HMap.out
        have HSat := hid hsat
        have HPc := hid hpc
        obtain ⟨wA, hwA⟩ : ∃ X, X = (wr.alloc (.cells #[.iface 79 (.agg #[.slice (some ⟨b1, o1 + d.q1, none⟩) 1 (c1 - d.q1)]), .iface y3 z3] 76)).alloc (.cells #[.slice (some ⟨b1, o1 + d.q1, none⟩) 1 (c1 - d.q1)] 79) := ⟨_, rfl⟩
        have hBA : Below wr.heap.size wr wA := by rw [hwA]; exact below_step (below_alloc _) (below_alloc _)
        have HBA := hid hBA
        have HMapA := hid (HMap.out.later hBA)
        have HSu := hid (hIu2.kp ((Kp.of_below HB.out).trans (Kp.of_below hBA)))
        have HSw := hid hIu2
        have HLrA : Hid (∀ n v, L.lookup n = some v → ∃ u', Is wA v u') := fun n v hv => by obtain ⟨u9, _, h9⟩ := (HLr.out n).1 v hv; exact ⟨u9, h9.kp ((Kp.of_below HB.out).trans (Kp.of_below hBA))⟩
        have hcc : wA.cell? ⟨b1, o1 + d.q1, none⟩ = some (.int .i64 c) := (Kp.of_below (below_step HB.out hBA)).cell _ _ hcc0
        have hcv : wA.cell? ⟨wr.heap.size + 1, 0, none⟩ = some (.slice (some ⟨b1, o1 + d.q1, none⟩) 1 (c1 - d.q1)) := by rw [hwA]; exact cell_newg (by simp) rfl
        have hcn1 : wA.cell? ⟨wr.heap.size, 1, none⟩ = some (.iface y3 z3) := by rw [hwA]; exact cell_old (cell_new rfl)
        clear hIu hIu2 hu hbm0 hsat hpc hcc0 hN
        go_upto_region 8 with fail
        rw [← hwA]
        go_cut [46] from 39 to 46 (fun x wx => ∃ W1, Below wA.heap.size wA W1 ∧ ((L.lookup (-1 - c) = none ∧ x = .bool false ∧ MapV wx w.heap.size ((-1 - c, .slice (some ⟨b2, o2 + d.q2, none⟩) N (c2 - d.q2)) :: L) ∧ W1.grownBy wx (some w.heap.size)) ∨ (∃ v u9, L.lookup (-1 - c) = some v ∧ Is W1 v u9 ∧ x = .bool (!decide (u9 = u)) ∧ Below W1.heap.size W1 wx)))
        case first =>
          clear hwA has
          cases hTt : d.T with
          | var =>
            rw [hTt] at htp2 HN
            unfold TP cdS at htp2
            simp only [Value.iface.injEq] at htp2
            obtain ⟨rfl, rfl⟩ := htp2
            obtain rfl : N = 1 := HN.out
            clear HN
            have hS : Kp wA wA.drew := Kp.of_below (drawn_below1 wA)
            refine wp_region_held_drew (S := fun w' => Kp wA w') (by kernel_rfl) hS (fun _ => ?_)
            refine wpAnyH_take (i := 0) (v := .map (some w.heap.size)) rfl (by kernel_rfl) (by kernel_rfl) (by kernel_rfl) (fun _ _ _ h => h) (Or.inl ⟨by rfl, fun w' h => by go_simp⟩) hS ?_
            simp only [Act.put, List.setIfInBounds_toArray]
            refine wpAnyH_take (i := 1) (v := .agg #[.slice (some ⟨b1, o1 + d.q1, none⟩) 1 (c1 - d.q1)]) rfl (by kernel_rfl) (by kernel_rfl) (by kernel_rfl) (fun _ _ _ h => h) (Or.inl ⟨by rfl, fun w' h => by have hh0 := h.cell _ _ hcv; go_simp⟩) hS ?_
            simp only [Act.put]
            refine wpAnyH_take (i := 3) (v := .pointer (some ⟨wr.heap.size, 1, none⟩)) rfl (by kernel_rfl) (by kernel_rfl) (by kernel_rfl) (fun _ _ _ h => h) (Or.inl ⟨by rfl, fun w' h => by go_simp⟩) hS ?_
            simp only [Act.put]
            refine wpAnyH_take (i := 4) (v := .iface 79 (.agg #[.slice (some ⟨b2, o2 + d.q2, none⟩) 1 (c2 - d.q2)])) rfl (by kernel_rfl) (by kernel_rfl) (by kernel_rfl) (fun _ _ _ h => h) (Or.inl ⟨by rfl, fun w' h => by have hh0 := h.cell _ _ hcn1; go_simp⟩) hS ?_
            simp only [Act.put]
            refine wpAnyH_ready (rs := [2]) (by kernel_rfl) (by simp) (AllReadyH.cons rfl (fun K hK => ?_) (AllReadyH.nil))
            go_simp
            refine (number_any b1 o1 c1 d.q1 c _ (hS.cell _ _ hcc) hcr1 hcr2).mono ?_
            rintro e W1 ⟨rfl, hbW1⟩
            refine hK.out _ _ (hS.trans (Kp.of_below hbW1)) (fun hSW1 => ?_)
            clear hK K
            try simp only [Act.put, List.setIfInBounds_toArray]
            refine wpAnyH_ready (rs := [5]) (by kernel_rfl) (by simp) (AllReadyH.cons rfl (fun K hK => ?_) (AllReadyH.nil))
            go_simp
            refine (varRow_any _ _).mono ?_
            rintro e W2 ⟨rfl, hbW2⟩
            refine hK.out _ _ (hSW1.trans (Kp.of_below hbW2)) (fun hSW2 => ?_)
            clear hK K
            try simp only [Act.put, List.setIfInBounds_toArray]
            refine wpAnyH_ready (rs := [6]) (by kernel_rfl) (by simp) (AllReadyH.cons rfl (fun K hK => ?_) (AllReadyH.nil))
            go_simp
            have hba : Below wA.heap.size wA W2 := below_step (drawn_below1 wA) (below_step hbW1 hbW2)
            refine (bindAlike_any w.heap.size L (-1 - c) (.slice (some ⟨b2, o2 + d.q2, none⟩) 1 (c2 - d.q2)) u W2 (HMapA.out.later hba) (HSu.out.kp (Kp.of_below hba)) (fun v hv => by obtain ⟨u9, _, h9⟩ := (HLr.out (-1 - c)).1 v hv; exact ⟨u9, h9.kp (((Kp.of_below HB.out).trans (Kp.of_below HBA.out)).trans (Kp.of_below hba))⟩) (by omega) (by omega) (by unfold maxLen; omega)).mono ?_
            rintro e W3 (⟨hn, rfl, hm3, hg3⟩ | ⟨v, u9, hn, hi9, rfl, k9, hw9⟩)
            · obtain ⟨es9, ck9, hbm⟩ := (HMapA.out.later hba).isMap
              refine hK.out _ _ (hSW2.trans (Kp.of_map hg3 hbm)) (fun hS3 => ?_)
              clear hK K
              try simp only [Act.put, List.setIfInBounds_toArray]
              refine wpAnyH_take (i := 7) (v := .bool false) rfl (by kernel_rfl) (by kernel_rfl) (by kernel_rfl) (fun _ _ _ h => h) (Or.inl ⟨by rfl, fun w' h => by go_simp⟩) hS3 ?_
              simp only [Act.put]
              refine wpAnyH_done (by kernel_rfl) ?_ _
              go_wp2_with fail
              go_meet
              exact ⟨W2, hba, .inl ⟨hn, rfl, hm3, hg3⟩⟩
            · have hb3 := drawn_below hw9
              refine hK.out _ _ (hSW2.trans (Kp.of_below hb3)) (fun hS3 => ?_)
              clear hK K
              try simp only [Act.put, List.setIfInBounds_toArray]
              obtain ⟨B, hB⟩ : ∃ B, B = decide (u9 = u) := ⟨_, rfl⟩
              rw [← hB]
              have HQ := hid hB
              clear hB hw9
              refine wpAnyH_take (i := 7) (v := .bool (!B)) rfl (by kernel_rfl) (by kernel_rfl) (by kernel_rfl) (fun _ _ _ h => h) (Or.inl ⟨by rfl, fun w' h => by go_simp⟩) hS3 ?_
              simp only [Act.put]
              refine wpAnyH_done (by kernel_rfl) ?_ _
              go_wp2_with fail
              go_meet
              exact ⟨W2, hba, .inr ⟨v, u9, hn, hi9, by rw [HQ.out], hb3⟩⟩
          | app ts2 =>
            rw [hTt] at htp2 HN
            unfold TP cdS at htp2
            obtain ⟨B2, a2, cp2, he2, hAB, hc20, _⟩ := htp2
            simp only [Value.iface.injEq] at he2
            obtain ⟨rfl, rfl⟩ := he2
            rw [show 1 + sizes ts2 = N from HN.out.symm] at hc20
            have hcB : wA.cell? ⟨B2, 0, none⟩ = some (.slice (some ⟨b2, o2 + d.q2, none⟩) N (c2 - d.q2)) := (Kp.of_below (below_step HB.out HBA.out)).cell _ _ hc20
            clear hc20 HN
            have hS : Kp wA wA.drew := Kp.of_below (drawn_below1 wA)
            refine wp_region_held_drew (S := fun w' => Kp wA w') (by kernel_rfl) hS (fun _ => ?_)
            refine wpAnyH_take (i := 0) (v := .map (some w.heap.size)) rfl (by kernel_rfl) (by kernel_rfl) (by kernel_rfl) (fun _ _ _ h => h) (Or.inl ⟨by rfl, fun w' h => by go_simp⟩) hS ?_
            simp only [Act.put, List.setIfInBounds_toArray]
            refine wpAnyH_take (i := 1) (v := .agg #[.slice (some ⟨b1, o1 + d.q1, none⟩) 1 (c1 - d.q1)]) rfl (by kernel_rfl) (by kernel_rfl) (by kernel_rfl) (fun _ _ _ h => h) (Or.inl ⟨by rfl, fun w' h => by have hh0 := h.cell _ _ hcv; go_simp⟩) hS ?_
            simp only [Act.put]
            refine wpAnyH_take (i := 3) (v := .pointer (some ⟨wr.heap.size, 1, none⟩)) rfl (by kernel_rfl) (by kernel_rfl) (by kernel_rfl) (fun _ _ _ h => h) (Or.inl ⟨by rfl, fun w' h => by go_simp⟩) hS ?_
            simp only [Act.put]
            refine wpAnyH_take (i := 4) (v := .iface 86 (.pointer (some ⟨B2, 0, none⟩))) rfl (by kernel_rfl) (by kernel_rfl) (by kernel_rfl) (fun _ _ _ h => h) (Or.inl ⟨by rfl, fun w' h => by have hh0 := h.cell _ _ hcn1; go_simp⟩) hS ?_
            simp only [Act.put]
            refine wpAnyH_ready (rs := [2]) (by kernel_rfl) (by simp) (AllReadyH.cons rfl (fun K hK => ?_) (AllReadyH.nil))
            go_simp
            refine (number_any b1 o1 c1 d.q1 c _ (hS.cell _ _ hcc) hcr1 hcr2).mono ?_
            rintro e W1 ⟨rfl, hbW1⟩
            refine hK.out _ _ (hS.trans (Kp.of_below hbW1)) (fun hSW1 => ?_)
            clear hK K
            try simp only [Act.put, List.setIfInBounds_toArray]
            refine wpAnyH_ready (rs := [5]) (by kernel_rfl) (by simp) (AllReadyH.cons rfl (fun K hK => ?_) (AllReadyH.nil))
            go_simp
            refine (appRow_any B2 _ _ (hSW1.cell _ _ hcB)).mono ?_
            rintro e W2 ⟨rfl, hwW2⟩
            have hbW2 : Below (W1).heap.size (W1) W2 := by rw [hwW2]; exact Below.refl _ _
            clear hwW2
            refine hK.out _ _ (hSW1.trans (Kp.of_below hbW2)) (fun hSW2 => ?_)
            clear hK K
            try simp only [Act.put, List.setIfInBounds_toArray]
            refine wpAnyH_ready (rs := [6]) (by kernel_rfl) (by simp) (AllReadyH.cons rfl (fun K hK => ?_) (AllReadyH.nil))
            go_simp
            have hba : Below wA.heap.size wA W2 := below_step (drawn_below1 wA) (below_step hbW1 hbW2)
            refine (bindAlike_any w.heap.size L (-1 - c) (.slice (some ⟨b2, o2 + d.q2, none⟩) N (c2 - d.q2)) u W2 (HMapA.out.later hba) (HSu.out.kp (Kp.of_below hba)) (fun v hv => by obtain ⟨u9, _, h9⟩ := (HLr.out (-1 - c)).1 v hv; exact ⟨u9, h9.kp (((Kp.of_below HB.out).trans (Kp.of_below HBA.out)).trans (Kp.of_below hba))⟩) (by omega) (by omega) (by unfold maxLen; omega)).mono ?_
            rintro e W3 (⟨hn, rfl, hm3, hg3⟩ | ⟨v, u9, hn, hi9, rfl, k9, hw9⟩)
            · obtain ⟨es9, ck9, hbm⟩ := (HMapA.out.later hba).isMap
              refine hK.out _ _ (hSW2.trans (Kp.of_map hg3 hbm)) (fun hS3 => ?_)
              clear hK K
              try simp only [Act.put, List.setIfInBounds_toArray]
              refine wpAnyH_take (i := 7) (v := .bool false) rfl (by kernel_rfl) (by kernel_rfl) (by kernel_rfl) (fun _ _ _ h => h) (Or.inl ⟨by rfl, fun w' h => by go_simp⟩) hS3 ?_
              simp only [Act.put]
              refine wpAnyH_done (by kernel_rfl) ?_ _
              go_wp2_with fail
              go_meet
              exact ⟨W2, hba, .inl ⟨hn, rfl, hm3, hg3⟩⟩
            · have hb3 := drawn_below hw9
              refine hK.out _ _ (hSW2.trans (Kp.of_below hb3)) (fun hS3 => ?_)
              clear hK K
              try simp only [Act.put, List.setIfInBounds_toArray]
              obtain ⟨B, hB⟩ : ∃ B, B = decide (u9 = u) := ⟨_, rfl⟩
              rw [← hB]
              have HQ := hid hB
              clear hB hw9
              refine wpAnyH_take (i := 7) (v := .bool (!B)) rfl (by kernel_rfl) (by kernel_rfl) (by kernel_rfl) (fun _ _ _ h => h) (Or.inl ⟨by rfl, fun w' h => by go_simp⟩) hS3 ?_
              simp only [Act.put]
              refine wpAnyH_done (by kernel_rfl) ?_ _
              go_wp2_with fail
              go_meet
              exact ⟨W2, hba, .inr ⟨v, u9, hn, hi9, by rw [HQ.out], hb3⟩⟩
        case rest =>
          obtain ⟨W1, hbW, ho⟩ := hcut
          have hBW : Below w.heap.size w W1 := below_step (below_step HB.out HBA.out) hbW
          have hpv := HPv.out
          clear has
          rcases ho with ⟨hn, rfl, hm3, hg3⟩ | ⟨v, u9, hn, hi9, rfl, hb3⟩
          · have HBx : Hid (Below w.heap.size w wc) := grown_below hBW hg3 (Nat.le_refl _)
            have HOx : Hid (OwP wc (w.heap.size + 1) (.slice (some ⟨g, 0, none⟩) xs.length cp) xs) := (HCt.out.later (below_step HBA.out hbW)).kept hg3 (.inr (fun h => by have h : some g = some w.heap.size := h; cases h; omega))
            have HM3 := hid hm3
            have HEx : Hid (Eqv sig p t ((-1 - c, u) :: R) es) := by
              have := Eqv.bind HEq.out HSat.out ((HLr.out _).2 hn)
              rw [← HU.out] at this
              exact this
            have HKx : Hid (Ky sig p ((-1 - c, u) :: R)) := HKy.out.cons (by rw [HU.out]; exact HDk.out.2.row.1) (List.mem_of_getElem? HPc.out) hc0
            clear hn hm3 hg3 hbW hBW hpv
            go_wp2
            go_roundg (wait es)
            case measure => omega
            case rel => exact ⟨xs, es, _, _, HOx.out, HPv.out, HOe.out, HM3.out, Lr.cons HLr.out HSw.out, HEx.out, HKx.out, by simp only [List.length_cons]; omega, Nat.le_refl _, HBx.out⟩
          · have HBx : Hid (Below w.heap.size w wc) := below_step hBW hb3
            have hbx : Below wr.heap.size wr wc := below_step (below_step HBA.out hbW) hb3
            have HOx : Hid (OwP wc (w.heap.size + 1) (.slice (some ⟨g, 0, none⟩) xs.length cp) xs) := HCt.out.later hbx
            have HMx := hid (HMap.out.later hbx)
            obtain ⟨u8, hr8, h8⟩ := (HLr.out _).1 v hn
            obtain rfl := Is.inj (h8.kp (Kp.of_below hBW)) hi9
            clear hi9 h8 hb3 hbx hn hbW hBW hpv
            by_cases heu : u8 = u
            · have hd : decide (u8 = u) = true := by simp [heu]
              rw [hd]
              subst heu
              have HEx : Hid (Eqv sig p t R es) := Eqv.known HEq.out HSat.out (by rw [← HU.out]; exact hr8)
              clear hr8 hd
              go_wp2
              go_roundg (wait es)
              case measure => omega
              case rel => exact ⟨xs, es, _, _, HOx.out, HPv.out, HOe.out, HMx.out, HLr.out, HEx.out, HKy.out, by omega, Nat.le_refl _, HBx.out⟩
            · have hd : decide (u8 = u) = false := by simp [heu]
              rw [hd]
              have HEx : Hid (∀ f, Rt sig f → ¬ Sm f p t) := Eqv.clash HEq.out HSat.out hr8 (by rw [← HU.out]; exact heu)
              clear hr8 heu hd
              go_wp2
              go_ret2
              exact ⟨HBx.out, .inl ⟨rfl, HEx.out⟩⟩
      | app ts1 =>
        obtain ⟨y3, z3, hy3⟩ := htp2.ifv
        subst hy3
        rw [hP] at htp1 HT1 hwk hcnt hsz1
        unfold TP at htp1
        obtain ⟨B1, a1, cp1, he1, _⟩ := htp1
        subst he1
        simp only [Tr.size] at hwk hcnt hsz1
        have has := as_varnotM
        have hqp : d.q1 < p.length := by omega
        have hqt : d.q2 < t.length := by omega
        obtain ⟨b9, o9, c, he9, hpc, hcc0, hcr1, hcr2⟩ := HP.out.at hqp
        simp only [Option.some.injEq, Addr.mk.injEq, and_true] at he9
        obtain ⟨rfl, rfl⟩ := he9
        obtain ⟨b9, o9, c', he9, htc, hdd0, hdr1, hdr2⟩ := HT.out.at hqt
        simp only [Option.some.injEq, Addr.mk.injEq, and_true] at he9
        obtain ⟨rfl, rfl⟩ := he9
        obtain ⟨hno, hyes⟩ := pr_app HAr.out HDk.out hP hpc htc
        have HNo := hid hno
        have HYes := hid hyes
        have hlk := len_sizes ts1
        obtain ⟨wA, hwA⟩ : ∃ X, X = (wr.alloc (.cells #[.iface 86 (.pointer (some ⟨B1, 0, none⟩)), .iface y3 z3] 76)).alloc (.cells #[.slice none 0 0] 79) := ⟨_, rfl⟩
        have hBA : Below wr.heap.size wr wA := by rw [hwA]; exact below_step (below_alloc _) (below_alloc _)
        have HBA := hid hBA
        have HBW := hid (below_step HB.out hBA)
        have hcc : wA.cell? ⟨b1, o1 + d.q1, none⟩ = some (.int .i64 c) := (Kp.of_below HBW.out).cell _ _ hcc0
        have hdd : wA.cell? ⟨b2, o2 + d.q2, none⟩ = some (.int .i64 c') := (Kp.of_below HBW.out).cell _ _ hdd0
        have hcn0 : wA.cell? ⟨wr.heap.size, 0, none⟩ = some (.iface 86 (.pointer (some ⟨B1, 0, none⟩))) := by rw [hwA]; exact cell_old (cell_new rfl)
        have hcn1 : wA.cell? ⟨wr.heap.size, 1, none⟩ = some (.iface y3 z3) := by rw [hwA]; exact cell_old (cell_new rfl)
        have HCc := hid hcc
        have HDd := hid hdd
        have HTc := hid htc
        have HPc := hid hpc
        clear hcc0 hdd0 hno hyes hcc hdd hpc htc
        go_upto_region 10 with fail
        rw [← hwA]
        clear has
        go_cut [11, 12] from 47 to 55 (fun x y wx => ∃ ys ok, y = .bool ok ∧ OwP wx wA.heap.size x ys ∧ Below wA.heap.size wA wx ∧ ((ok = false ∧ (d.T = .var ∨ c ≠ c')) ∨ (ok = true ∧ ∃ ts2, d.T = .app ts2 ∧ c = c' ∧ TPl wx A (cdS b1 o1 c1) (ys.map (·.1)) ts1 (d.q1 + 1) ∧ TPl wx A (cdS b2 o2 c2) (ys.map (·.2)) ts2 (d.q2 + 1))))
        case first =>
          clear hwA
          have has := as_appM (.pointer (some ⟨B1, 0, none⟩)) 55 false
          simp only [Bool.false_eq_true, if_false] at has
          have hS : Kp wA wA.drew := Kp.of_below (drawn_below1 wA)
          refine wp_region_held_drew (S := fun w' => Kp wA w') (by kernel_rfl) hS (fun _ => ?_)
          refine wpAnyH_take (i := 0) (v := .pointer (some ⟨wr.heap.size, 0, none⟩)) rfl (by kernel_rfl) (by kernel_rfl) (by kernel_rfl) (fun _ _ _ h => h) (Or.inl ⟨by rfl, fun w' h => by go_simp⟩) hS ?_
          simp only [Act.put, List.setIfInBounds_toArray]
          refine wpAnyH_take (i := 1) (v := .iface 86 (.pointer (some ⟨B1, 0, none⟩))) rfl (by kernel_rfl) (by kernel_rfl) (by kernel_rfl) (fun _ _ _ h => h) (Or.inl ⟨by rfl, fun w' h => by have hh0 := h.cell _ _ hcn0; go_simp⟩) hS ?_
          simp only [Act.put]
          refine wpAnyH_take (i := 2) (v := .pointer (some ⟨B1, 0, none⟩)) rfl (by kernel_rfl) (by kernel_rfl) (by kernel_rfl) (fun _ _ _ h => h) (Or.inl ⟨by rfl, fun w' h => by go_simp⟩) hS ?_
          simp only [Act.put]
          refine wpAnyH_take (i := 3) (v := .pointer (some ⟨wr.heap.size, 1, none⟩)) rfl (by kernel_rfl) (by kernel_rfl) (by kernel_rfl) (fun _ _ _ h => h) (Or.inl ⟨by rfl, fun w' h => by go_simp⟩) hS ?_
          simp only [Act.put]
          refine wpAnyH_take (i := 4) (v := .iface y3 z3) rfl (by kernel_rfl) (by kernel_rfl) (by kernel_rfl) (fun _ _ _ h => h) (Or.inl ⟨by rfl, fun w' h => by have hh0 := h.cell _ _ hcn1; go_simp⟩) hS ?_
          simp only [Act.put]
          clear has
          refine wpAnyH_ready (rs := [5]) (by kernel_rfl) (by simp) (AllReadyH.cons rfl (fun K hK => ?_) (AllReadyH.nil))
          go_simp
          have hkw : Kp w wA.drew := (Kp.of_below HBW.out).trans hS
          refine (argumentPairs_any A b1 o1 c1 b2 o2 c2 d.q1 d.q2 c c' B1 ts1 d.T (.iface y3 z3) wA.drew (HT1.out.keep (fun b o x _ h => hkw.cell _ _ h) (fun _ h => h)) (HT2.out.keep (fun b o x _ h => hkw.cell _ _ h) (fun _ h => h)) (fun b hb => Nat.lt_of_lt_of_le (HA.out b hb) HBW.out.size) (hS.cell _ _ HCc.out) (hS.cell _ _ HDd.out) (fun ts2 h1 h2 => (HYes.out ts2 h1 h2).1) (by omega)).mono ?_
          rintro e W1 ⟨v', ys, ok, rfl, hoy, hby, hres⟩
          have HRes := hid hres
          have HOy := hid hoy
          have HBy := hid hby
          clear hres hoy
          refine hK.out _ _ (hS.trans (Kp.of_below hby)) (fun hSW1 => ?_)
          clear hK K
          try simp only [Act.put, List.setIfInBounds_toArray]
          refine wpAnyH_take (i := 6) (v := .tuple #[v', .bool ok]) rfl (by kernel_rfl) (by kernel_rfl) (by kernel_rfl) (fun _ _ _ h => h) (Or.inl ⟨by rfl, fun w' h => by go_simp⟩) hSW1 ?_
          simp only [Act.put]
          refine wpAnyH_take (i := 7) (v := v') rfl (by kernel_rfl) (by kernel_rfl) (by kernel_rfl) (fun _ _ _ h => h) (Or.inl ⟨by rfl, fun w' h => by go_simp⟩) hSW1 ?_
          simp only [Act.put]
          refine wpAnyH_take (i := 8) (v := .bool ok) rfl (by kernel_rfl) (by kernel_rfl) (by kernel_rfl) (fun _ _ _ h => h) (Or.inl ⟨by rfl, fun w' h => by go_simp⟩) hSW1 ?_
          simp only [Act.put]
          refine wpAnyH_take (i := 9) (v := v') rfl (by kernel_rfl) (by kernel_rfl) (by kernel_rfl) (fun _ _ _ h => h) (Or.inl ⟨by rfl, fun w' h => by go_simp⟩) hSW1 ?_
          simp only [Act.put]
          refine wpAnyH_take (i := 10) (v := .bool ok) rfl (by kernel_rfl) (by kernel_rfl) (by kernel_rfl) (fun _ _ _ h => h) (Or.inl ⟨by rfl, fun w' h => by go_simp⟩) hSW1 ?_
          simp only [Act.put]
          refine wpAnyH_done (by kernel_rfl) ?_ _
          go_wp2_with fail
          go_meet
          exact ⟨ys, ok, rfl, HOy.out, below_step (drawn_below1 wA) HBy.out, HRes.out⟩
        case rest =>
          obtain ⟨ys, ok, rfl, hoy, hby, hres⟩ := hcut
          have hbx : Below wr.heap.size wr wc := below_step HBA.out hby
          have hBx : Below w.heap.size w wc := below_step HB.out hbx
          have HBx := hid hBx
          rcases hres with ⟨rfl, hh⟩ | ⟨rfl, ts2, hT2, hcc, ht1, ht2⟩
          · have HEx : Hid (∀ f, Rt sig f → ¬ Sm f p t) := Eqv.none HEq.out (HNo.out hh)
            clear hh hoy hby hbx hBx
            go_wp2
            go_ret2
            exact ⟨HBx.out, .inl ⟨rfl, HEx.out⟩⟩
          · obtain ⟨hll, hoks, hsm⟩ := HYes.out ts2 hT2 hcc
            have HEx : Hid (Eqv sig p t R (es ++ argPr p t ts1 ts2 d.q1 d.q2)) := Eqv.open HEq.out hsm
            have HOx : OwP wc (w.heap.size + 1) (.slice (some ⟨g, 0, none⟩) xs.length cp) xs := HCt.out.later hbx
            have hMx := HMap.out.later hbx
            have hback : ∀ b o x, A b → wc.cell? ⟨b, o, none⟩ = some x → w.cell? ⟨b, o, none⟩ = some x := fun b o x hb h => (hBx.cell (p := ⟨b, o, none⟩) (HA.out b hb)).symm.trans h
            have HPx : Hid (PrV w A (cdS b1 o1 c1) (cdS b2 o2 c2) (xs ++ ys) (es ++ argPr p t ts1 ts2 d.q1 d.q2)) := PrV.app HPv.out (PrV.args p t hll (ht1.keep hback (fun _ h => h)) (ht2.keep hback (fun _ h => h)))
            have HOk2 : Hid (∀ e ∈ es ++ argPr p t ts1 ts2 d.q1 d.q2, e.ok sig p t) := fun e he => by
              rcases List.mem_append.1 he with he | he
              · exact HOe.out e he
              · exact hoks e he
            have hxl : xs.length ≤ wait es := by rw [HPv.out.len]; exact len_wait es
            have hyl : ys.length = ts1.length := by have := ht1.len; rwa [List.length_map] at this
            have hone : ∀ u ∈ prC ys, u.oneCell' = true := pr_one ht1 ht2
            obtain ⟨ao, cpy, hvy, hsrc⟩ := own_src hoy
            subst hvy
            obtain ⟨v6, w6, hr6, ho6, hg6, _⟩ := join_pairs 77 (cap := cpy) HOx hsrc hone (by have h9 : g < wr.heap.size := World.block_lt_of_cell? _ _ hca'; have := hbx.size; omega) (by omega)
            have HR6 := hid hr6
            have HO6 := hid ho6
            have HM6 := hid (hMx.kept hg6 (fun h => by have h : some g = some w.heap.size := h; cases h; omega))
            have HB6 : Hid (Below w.heap.size w w6) := grown_below hBx hg6 (show w.heap.size ≤ g by omega)
            have hwt : wait (es ++ argPr p t ts1 ts2 d.q1 d.q2) = wait es + sizes ts1 := by rw [wait_app, wait_args]
            have HWt := hid hwt
            clear hr6 ho6 hg6 hMx hback hxl hyl hone hsrc hoy hby hbx hBx HOx ht1 ht2 hll hoks hsm hcc hT2 hwt
            go_wp2_with (first
              | (at_builtin; refine wpList_append_run rfl _ _ _ rfl _ _ rfl rfl HR6.out ?_))
            go_roundg (wait es + sizes ts1)
            case measure => omega
            case rel => exact ⟨_, _, _, _, HO6.out, HPx.out, HOk2.out, HM6.out, HLr.out, HEx.out, HKy.out, by rw [HWt.out]; omega, by rw [HWt.out]; exact Nat.le_refl _, HB6.out⟩

end Go.Proofs.YtcijfaijjpkdoaaDoor

/- Match of package match walked. -/
namespace Go.Proofs.YtcijfaijjpkdoaaDoor
open Go.RowKit Go.Maps

theorem piece_le {f : Int → Option (List Int)} {p : List Int} {c : Int} (h : c ∈ p) : (piece f c).length ≤ (laidL f p).length := by
  obtain ⟨a, b, rfl⟩ := List.append_of_mem h
  rw [laidL_app, laidL_cons, List.length_append, List.length_append]
  omega

theorem metM_len : ∀ (t m : List Int), (metA m t).length ≤ m.length + t.length
  | [], m => by simp [metA]
  | c :: t, m => by
    unfold metA
    split
    · have := metM_len t m
      simp only [List.length_cons]
      omega
    · have := metM_len t (m ++ [c])
      simp only [List.length_append, List.length_cons, List.length_nil] at this ⊢
      omega

theorem varsM_len (t : List Int) : (varsL t).length ≤ t.length := by
  unfold varsL
  rw [List.length_map]
  have := metM_len t []
  simpa using this

theorem wf_whole {sig : List Sy} {p : List Int} {P : Tr} (hr : rowE sig p = 0) (hg : growR sig p = [P]) : Wf sig p P 0 ∧ P.size = p.length := by
  refine ⟨⟨p, [], by simp, hr, hg⟩, ?_⟩
  have h := growR_sizes sig p
  rw [hg] at h
  simpa [sizes] using h

theorem row_ne {sig : List Sy} {p : List Int} (hr : rowE sig p = 0) : 0 < p.length := by
  cases p with
  | nil => simp [rowE, firstT] at hr
  | cons c p => simp

/-- The binds that a match tells. -/
def bindsL (f : Int → Option (List Int)) (p : List Int) : List Bd := (sortI (varsL p)).map fun n => (n, (f n).getD [])

theorem rs_two {w : World} {pv tv : Value} {p t : List Int} (hp : Is w pv p) (ht : Is w tv t) (h1 : p.length * 8 ≤ 140737488351232) (h2 : t.length * 8 ≤ 140737488351232) : Rs (w.alloc (.cells #[pv, tv] 23)) (.slice (some ⟨w.heap.size, 0, none⟩) 2 2) [p, t] := by
  have hk := Kp.of_below (below_alloc (w := w) (.cells #[pv, tv] 23))
  refine ⟨_, 2, rfl, Nat.le_refl _, by simp [maxLen], fun _ => ⟨w.heap.size, 0, rfl, by simp, fun k x hx => ?_⟩⟩
  match k, hx with
  | 0, hx =>
    simp at hx
    subst hx
    exact ⟨h1, pv, cell_new rfl, hp.kp hk⟩
  | 1, hx =>
    simp at hx
    subst hx
    exact ⟨h2, tv, cell_new rfl, ht.kp hk⟩
  | k + 2, hx => simp at hx

/-- What the walk wants of the binds that were found. -/
theorem found {sig : List Sy} {p t : List Int} {w : World} {L : List (Int × Value)} {R : List (Int × List Int)} (hlr : Lr w L R) (hky : Ky sig p R) (hs : Sm (fun n => R.lookup n) p t) (ht : t.length * 8 ≤ 140737488351232) : ∀ x ∈ varsL p, ∃ v u, L.lookup x = some v ∧ R.lookup x = some u ∧ Is w v u ∧ 0 < u.length ∧ u.length * 8 ≤ 140737488351232 := fun x hx => by
  obtain ⟨c, hc, h0, rfl⟩ := mem_varsL.1 hx
  have hne := hs.1 c hc h0
  cases hl : L.lookup (-1 - c) with
  | none => exact absurd ((hlr _).2 hl) hne
  | some v =>
    obtain ⟨u, hu, hi⟩ := (hlr _).1 v hl
    refine ⟨v, u, rfl, hu, hi, row_ne (hky _ _ hu).1, ?_⟩
    have h9 := piece_le (f := fun n => R.lookup n) hc
    rw [hs.2] at h9
    have e9 : piece (fun n => R.lookup n) c = u := by unfold piece; rw [if_pos h0]; show (R.lookup (-1 - c)).getD [c] = u; rw [hu]; rfl
    rw [e9] at h9
    omega

set_option maxRecDepth 100000 in
set_option maxHeartbeats 1600000 in
theorem match_any (sv pv tv : Value) (sig : List Sy) (p t : List Int) (w : World) (hs : Sg w sv sig) (hp : Is w pv p) (ht : Is w tv t) (hT : Tabs w) (hl1 : p.length * 32 ≤ 140737488351232) (hl2 : t.length * 16 ≤ 140737488351232) :
    Calls Tryd.prog 10 #[sv, pv, tv] w fun e w' => Below w.heap.size w w' ∧ ((e = .returned (.tuple #[.slice none 0 0, .bool false]) ∧ (termE sig p ≠ 0 ∨ termE sig t ≠ 0 ∨ ∀ f, Rt sig f → ¬ Sm f p t)) ∨
      ∃ v f, e = .returned (.tuple #[v, .bool true]) ∧ termE sig p = 0 ∧ termE sig t = 0 ∧ Rt sig f ∧ Sm f p t ∧ OBW w.heap.size w' v (bindsL f p)) := by
  obtain ⟨ap, cp, hpv, _⟩ := hp.flatI
  subst hpv
  obtain ⟨at', ct, htv, _⟩ := ht.flatI
  subst htv
  have HS := hid hs
  have HP := hid hp
  have HT := hid ht
  have HTa := hid hT
  clear hs hp ht hT
  go_enter Tryd.func10, Tryd.ntmps10
  go_wp2_with fail
  refine (areTerms_any sv _ sig [p, t] _ (HS.out.kp (Kp.of_below (below_alloc _))) (rs_two HP.out HT.out (by omega) (by omega)) (HTa.out.below (below_alloc _))).mono ?_
  rintro e w1 ⟨rfl, hb1⟩
  have hB1 := below_step (below_alloc _) hb1
  have HB1 := hid hB1
  clear hb1
  by_cases hc : termE sig p = 0 ∧ termE sig t = 0
  · obtain ⟨hcp, hct⟩ := hc
    have htb : termsB sig [p, t] = true := by simp [termsB, hcp, hct]
    rw [htb]
    have hse : sigE sig = 0 := by
      unfold termE at hcp
      by_cases h : sigE sig = 0
      · exact h
      · rw [if_neg h] at hcp; exact hcp
    have hrp : rowE sig p = 0 := by unfold termE at hcp; rw [if_pos hse] at hcp; exact hcp
    have hrt : rowE sig t = 0 := by unfold termE at hct; rw [if_pos hse] at hct; exact hct
    have hao := sigE_ok hse
    have HCp := hid hcp
    have HCt := hid hct
    have HAo := hid hao
    have HRp := hid hrp
    have HRt := hid hrt
    obtain ⟨b1, o1, _, e1, _⟩ := HP.out.at (row_ne hrp)
    obtain ⟨b2, o2, _, e2, _⟩ := HT.out.at (row_ne hrt)
    subst e1
    subst e2
    clear htb hcp hct hse hrp hrt hao hB1
    go_wp2_with fail
    refine (growM_any sv b1 o1 cp sig p w1 (HS.out.kp (Kp.of_below HB1.out)) (HP.out.kp (Kp.of_below HB1.out)) HAo.out HRp.out (by omega)).mono ?_
    rintro e w2 ⟨v1, P, A1, rfl, hg1, ht1, hA1, hb2⟩
    have HB2 := hid (below_step HB1.out hb2)
    have HG1 := hid hg1
    have HT1 := hid ht1
    have HA1 := hid hA1
    clear hg1 ht1 hA1 hb2
    go_wp2_with fail
    refine (growM_any sv b2 o2 ct sig t w2 (HS.out.kp (Kp.of_below HB2.out)) (HT.out.kp (Kp.of_below HB2.out)) HAo.out HRt.out (by omega)).mono ?_
    rintro e w3 ⟨v2, T, A2, rfl, hg2, ht2, hA2, hb3⟩
    have HB3 := hid (below_step HB2.out hb3)
    have HG2 := hid hg2
    have HT2 := hid ht2
    have HA2 := hid hA2
    have HT1' : Hid (TP w3 (fun b => A1 b ∨ A2 b) (cdS b1 o1 cp) v1 P 0) := HT1.out.keep (fun b o x _ h => (Kp.of_below hb3).cell _ _ h) (fun b h => .inl h)
    have HT2' : Hid (TP w3 (fun b => A1 b ∨ A2 b) (cdS b2 o2 ct) v2 T 0) := HT2.out.keep (fun b o x _ h => h) (fun b h => .inr h)
    have HAA : Hid (∀ b, (A1 b ∨ A2 b) → b < w3.heap.size) := fun b h => by
      rcases h with h | h
      · exact Nat.lt_of_lt_of_le (HA1.out b h).2 hb3.size
      · exact (HA2.out b h).2
    clear hg2 ht2 hA2 hb3 HT1 HT2
    go_wp2_with fail
    refine (boundRows_any sig HAo.out b1 o1 cp b2 o2 ct p t (fun b => A1 b ∨ A2 b) v1 v2 P T w3 (HP.out.kp (Kp.of_below HB3.out)) (HT.out.kp (Kp.of_below HB3.out)) HT1'.out HT2'.out HAA.out (wf_whole HRp.out HG1.out).1 (wf_whole HRt.out HG2.out).1 (wf_whole HRp.out HG1.out).2 (wf_whole HRt.out HG2.out).2 (by omega)).mono ?_
    rintro e w4 ⟨hb4, ⟨rfl, hno⟩ | ⟨L, R, rfl, hm, hlr, hky, hsm⟩⟩
    · have HB4 := hid (below_step HB3.out hb4)
      have HNo := hid hno
      clear hb4 hno
      go_wp2
      go_ret2
      exact ⟨HB4.out, .inl ⟨rfl, .inr (.inr HNo.out)⟩⟩
    · have HB4 := hid (below_step HB3.out hb4)
      have HM := hid hm
      have HKy := hid hky
      have HSm := hid hsm
      have HFo : Hid (∀ x ∈ varsL p, ∃ v u, L.lookup x = some v ∧ R.lookup x = some u ∧ Is w4 v u ∧ 0 < u.length ∧ u.length * 8 ≤ 140737488351232) := fun x hx => by
        obtain ⟨v, u, k1, k2, k3, k4, k5⟩ := found hlr hky hsm (by omega) x hx
        exact ⟨v, u, k1, k2, k3.kp (Kp.of_below hb4), k4, k5⟩
      have hbm := hm.lt
      clear hb4 hm hlr hky hsm
      go_wp2_with fail
      refine (vars_any _ p w4 (HP.out.kp (Kp.of_below HB4.out)) (by omega)).mono ?_
      rintro e w5 ⟨v5, rfl, ho5, hb5⟩
      have HO5 := hid ho5
      have HB5 := hid hb5
      clear ho5 hb5
      go_wp2_with fail
      refine (risingBinds_any (fun n => R.lookup n) w3.heap.size L v5 (varsL p) w4 w5 HB5.out HO5.out (HM.out.later HB5.out) hbm HFo.out (by have := varsM_len p; omega)).mono ?_
      rintro e w6 ⟨v6, rfl, ho6, hb6⟩
      have HO6 := hid ho6
      have HB6 := hid (below_step HB4.out hb6)
      clear ho6 hb6
      go_wp2
      go_ret2
      exact ⟨HB6.out, .inr ⟨_, fun n => R.lookup n, rfl, HCp.out, HCt.out, fun n u hu => (HKy.out n u hu).1, HSm.out, HO6.out.mono HB4.out.size⟩⟩
  · have htb : termsB sig [p, t] = false := by
      unfold termsB
      rw [List.all_eq_false]
      by_cases h : termE sig p = 0
      · exact ⟨t, by simp, by simp; exact fun h2 => hc ⟨h, h2⟩⟩
      · exact ⟨p, by simp, by simpa using h⟩
    have HC : Hid (termE sig p ≠ 0 ∨ termE sig t ≠ 0 ∨ ∀ f, Rt sig f → ¬ Sm f p t) := by
      by_cases h : termE sig p = 0
      · exact .inr (.inl fun h2 => hc ⟨h, h2⟩)
      · exact .inl h
    rw [htb]
    clear htb hc hB1
    go_wp2
    go_ret2
    exact ⟨HB1.out, .inl ⟨rfl, HC.out⟩⟩

end Go.Proofs.YtcijfaijjpkdoaaDoor
