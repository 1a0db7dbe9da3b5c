/- Texts of the proof, one behind the other. -/
import Derived.Test.YtmokokhhheonoaaOwn4
import Derived.Test.YtmokokhhheonoaaProg
import Derived.WalkKit
import Derived.WalkSpells
import Derived.WalkLawsBesides
import Derived.Deep.QuietTactic
import Derived.BigQuiet
import Derived.Laws.CopyOwn
import Derived.Laws.IdiomCopy
import Derived.Test.YtmokokhhheonoaaOwn1
import Derived.Test.YtmokokhhheonoaaOwn2
import Derived.Shelf.SlSortCmp.NoneTotal
import Derived.Shelf.SlGeneric
import Derived.Ground.SlsfProg
import Derived.Laws.Bits64b
/- walk of package graph walked. -/
namespace Go.Proofs.Ytmokokhhheonoaa
open Go.RowKit Go.Maps Go.BigFrame

/-- The walk's own cells beside the search. -/
theorem SM.addF {w0 w W : World} {b n : Nat} {s : Sr} {gv opv atv lev gov pav psv : Value} {vs : List Value} (h : SM [] w0 w b n s gv opv atv lev gov pav psv vs) (hb : Below w.heap.size w W) {F : List (Nat × Value × TypeId)} (hF : Fx F W) : SM F w0 W b n s gv opv atv lev gov pav psv vs := by
  have h1 := h.later hb
  exact ⟨h1.bel, h1.bb, h1.blk, h1.own, h1.row, h1.len, hF⟩

theorem ty_down : ((34 : TypeId) ≠ 3 ∧ (34 : TypeId) ≠ 26 ∧ (34 : TypeId) ≠ 38) ∧ ((41 : TypeId) ≠ 3 ∧ (41 : TypeId) ≠ 26 ∧ (41 : TypeId) ≠ 38) := by decide

/-- Between the walk's rounds: nothing is open. -/
def Ou (F : List (Nat × Value × TypeId)) (w0 : World) (b : Nat) (G : List (List Int)) (gv atv lev gov : Value) (k : Nat) (w : World) : Prop :=
  ∃ s opv pav psv vs, SM F w0 w b G.length s gv opv atv lev gov pav psv vs ∧ SInv G s ∧ s.pa = [] ∧ ∀ x, x < k → s.A x ≠ -1

theorem Ou.mk {F : List (Nat × Value × TypeId)} {w0 w : World} {b k m : Nat} {G : List (List Int)} {gv atv lev gov : Value} {s0 : Sr} (h : Dn F w0 b G gv atv lev gov s0 [] m w) (hk : ∀ x, x < k + 1 → s0.A x ≠ -1) : Ou F w0 b G gv atv lev gov (k + 1) w := by
  obtain ⟨s, o, p, q, v, h1, h2, h3, h4, _⟩ := h
  exact ⟨s, o, p, q, v, h1, h2, h3, fun x hx => h4 x (hk x hx)⟩

theorem ou_enter {F : List (Nat × Value × TypeId)} {w0 w : World} {b k : Nat} {G : List (List Int)} {s : Sr} {gv opv atv lev gov pav psv : Value} {vs : List Value} (_h : SM F w0 w b G.length s gv opv atv lev gov pav psv vs) (hI : SInv G s) (hp : s.pa = []) (hk : k < G.length) (hA : s.A k = -1) (hm : ∀ x, x < k → s.A x ≠ -1) :
    SInv G (s.enter k) ∧ (s.enter k).pa = [] ++ [k] ∧ ∀ x, x < k + 1 → (s.enter k).A x ≠ -1 := by
  refine ⟨hI.ent hA hk (fun p hpp => by rw [hp] at hpp; simp at hpp), by show s.pa ++ [k] = _; rw [hp], fun x hx => ?_⟩
  show updI s.A k s.op.length x ≠ -1
  unfold updI
  split
  · omega
  · exact hm x (by omega)

/-- How long the path is, read out of memory. -/
def memP (b : Nat) (w : World) : Nat := match w.cell? ⟨b, 5, none⟩ with | some (.slice _ n _) => n | _ => 0

theorem memP_eq {F : List (Nat × Value × TypeId)} {w0 w : World} {b n : Nat} {s : Sr} {gv opv atv lev gov pav psv : Value} {vs : List Value} (h : SM F w0 w b n s gv opv atv lev gov pav psv vs) : memP b w = s.pa.length := by
  obtain ⟨ao, c, hv, _⟩ := (h.own.own 4 _ _ rfl).shape
  unfold memP
  rw [h.cells.2.2.2.2.2.1, hv]
  simp [natL_len]

/-- Within a node's turn: it stands alone on the path, or nothing does. -/
def Tu (F : List (Nat × Value × TypeId)) (w0 : World) (b : Nat) (G : List (List Int)) (gv atv lev gov : Value) (k : Nat) (w : World) : Prop :=
  (∃ s opv pav psv vs, SM F w0 w b G.length s gv opv atv lev gov pav psv vs ∧ SInv G s ∧ s.pa = [] ++ [k] ∧ ∀ x, x < k + 1 → s.A x ≠ -1) ∨ Ou F w0 b G gv atv lev gov (k + 1) w

theorem tu_cells {w0 w : World} {b bs bd m : Nat} {G : List (List Int)} {gv atv lev gov : Value} {s0 : Sr} {pa : List Nat} (h : Dn (downC b bs bd) w0 b G gv atv lev gov s0 pa m w) : w.cell? ⟨bs, 0, none⟩ = some (.pointer (some ⟨b, 0, none⟩)) ∧ w.cell? ⟨bd, 0, none⟩ = some (downF bs bd) := by
  obtain ⟨_, _, _, _, _, h1, _⟩ := h
  exact downC_cells h1.fx

theorem tu_back {F : List (Nat × Value × TypeId)} {w0 w wr : World} {b k m : Nat} {G : List (List Int)} {gv atv lev gov : Value} {s0 : Sr} (h : Dn F w0 b G gv atv lev gov s0 [] m w) (hk : ∀ x, x < k + 1 → s0.A x ≠ -1) (hp : memP b wr = 1) : Tu F w0 b G gv atv lev gov k w ∧ memP b w < memP b wr := by
  refine ⟨.inr (Ou.mk h hk), ?_⟩
  obtain ⟨s, _, _, _, _, h1, _, h3, _⟩ := h
  rw [memP_eq h1, h3, hp]
  simp

/-- What a node that stands alone on the path gives. -/
theorem tu_one {F : List (Nat × Value × TypeId)} {w0 w : World} {b k n : Nat} {s : Sr} {gv opv atv lev gov pav psv : Value} {vs : List Value} (h : SM F w0 w b n s gv opv atv lev gov pav psv vs) (hp : s.pa = [] ++ [k]) : ∃ g c, pav = .slice (some ⟨g, 0, none⟩) 1 c ∧ 1 ≤ c ∧ w.cell? ⟨b, 5, none⟩ = some (.slice (some ⟨g, 0, none⟩) 1 c) ∧ w.cell? ⟨g, 0, none⟩ = some (.int .i64 (k : Int)) ∧ memP b w = 1 := by
  have ho := h.own.own 4 _ _ rfl
  have hl : (natL s.pa).length = 1 := by rw [natL_len, hp]; rfl
  obtain ⟨g, c, hv⟩ := own_form ho.2 (by omega)
  obtain ⟨ao, c2, hv2, hc, _⟩ := ho.shape
  rw [hl] at hv hv2 hc
  rw [hv] at hv2
  simp only [Value.slice.injEq, true_and] at hv2
  subst hv
  refine ⟨g, c, rfl, by omega, h.cells.2.2.2.2.2.1, (ho.at (natL_get (k := 0) (x := k) (by rw [hp]; rfl))).1, by rw [memP_eq h, hp]; rfl⟩

theorem tu_none {F : List (Nat × Value × TypeId)} {w0 w : World} {b n : Nat} {s : Sr} {gv opv atv lev gov pav psv : Value} {vs : List Value} (h : SM F w0 w b n s gv opv atv lev gov pav psv vs) (hp : s.pa = []) : ∃ ao c, w.cell? ⟨b, 5, none⟩ = some (.slice ao 0 c) := by
  obtain ⟨ao, c, hv, _⟩ := (h.own.own 4 _ _ rfl).shape
  refine ⟨ao, c, ?_⟩
  rw [h.cells.2.2.2.2.2.1, hv, hp]
  rfl

set_option maxRecDepth 100000 in
set_option maxHeartbeats 3200000 in
theorem walk_any14 {w0 w : World} {b : Nat} {G : List (List Int)} {gv atv lev gov : Value} (h : SM [] w0 w b G.length Sr.start gv (.slice none 0 0) atv lev gov (.slice none 0 0) (.slice none 0 0) []) (hG : Rs w0 gv G) (hn : G.length ≤ 4096) :
    Calls Try.prog 18 #[.pointer (some ⟨b, 0, none⟩)] w fun e w' => e = .returned (.tuple #[]) ∧ ∃ F, Ou F w0 b G gv atv lev gov G.length w' := by
  obtain ⟨ao, cap, rfl, hc, hm, _⟩ := Row.flat hG
  unfold maxLen at hm
  obtain ⟨V, hV⟩ : ∃ X, X = (w.alloc (.cells #[.pointer (some ⟨b, 0, none⟩)] 34)).alloc (.cells #[.nilFunc] 41) := ⟨_, rfl⟩
  have hbV : Below w.heap.size w V := by rw [hV]; exact below_step (below_alloc _) (below_alloc _)
  have v1 : V.heap[w.heap.size + 1]? = some (.cells #[.nilFunc] 41) := by
    have h9 := heap_alloc_new (w.alloc (.cells #[.pointer (some ⟨b, 0, none⟩)] 34)) (.cells #[.nilFunc] 41)
    rw [World.size_alloc, ← hV] at h9
    exact h9
  have v0 : V.heap[w.heap.size]? = some (.cells #[.pointer (some ⟨b, 0, none⟩)] 34) := by
    have h9 := heap_alloc_new w (.cells #[.pointer (some ⟨b, 0, none⟩)] 34)
    rw [hV]
    exact ((grown_of_below (below_alloc _) none).block _ (by simp only [World.size_alloc]; omega) (by simp)).trans h9
  obtain ⟨W, hW⟩ : ∃ X, X = V.setCell ⟨w.heap.size + 1, 0, none⟩ (downF w.heap.size (w.heap.size + 1)) := ⟨_, rfl⟩
  have hst : (store ⟨w.heap.size + 1, 0, none⟩ (downF w.heap.size (w.heap.size + 1))).run Try.prog V = .ok () W := by
    have e1 := cell_of_row _ _ 0 _ _ _ v1
    have e2 : V.frozen? ⟨w.heap.size + 1, 0, none⟩ = false := frozen_of_row _ _ 0 _ _ v1
    rw [run_store _ _ _ _ _ rfl, hW]
    simp only [List.getElem?_toArray, List.getElem?_cons_zero] at e1
    rw [e1, e2]
    rfl
  have hbW : Below w.heap.size w W := by rw [hW]; exact hbV.setCell (p := ⟨w.heap.size + 1, 0, none⟩) (by simp) _
  have hF : Fx (downC b w.heap.size (w.heap.size + 1)) W := by
    intro x hx
    rw [hW]
    rcases List.mem_cons.1 hx with rfl | hx
    · exact ⟨by rw [heap_setCell_other _ _ _ _ (by simp)]; exact v0, ty_down.1⟩
    · simp only [List.mem_singleton] at hx
      subst hx
      exact ⟨heap_setCell_same _ _ _ _ _ _ v1, ty_down.2⟩
  have hI0 : SInv G Sr.start := SInv.start (by unfold closedN; omega)
  have HO : Hid (Ou (downC b w.heap.size (w.heap.size + 1)) w0 b G (.slice ao G.length cap) atv lev gov 0 W) := ⟨Sr.start, _, _, _, _, h.addF hbW hF, hI0, rfl, fun x hx => by omega⟩
  obtain ⟨y0, y1⟩ := downC_cells hF
  have x0 := (h.addF hbW hF).cells.1
  have HSt := hid hst
  have HV := hid hV
  have HGr := hid hG
  clear h hst hV hW v0 v1 hbV hbW hF hG hI0
  generalize hbs : w.heap.size = bs at *
  have HBs := hid hbs
  go_enter Try.func18, Try.ntmps18
  go_wp2
  rw [← HV.out, HSt.out]
  clear HSt HV
  obtain ⟨n, hnl⟩ : ∃ n, n = G.length := ⟨_, rfl⟩
  go_wp2
  go_loopw [10] (fun iv wr => ∃ k : Nat, k ≤ G.length ∧ iv = .int .i64 k ∧ Ou (downC b bs (bs + 1)) w0 b G (.slice ao G.length cap) atv lev gov k wr) (fun iv _ => G.length - (intOf iv).toNat)
  case atStart => exact ⟨0, Nat.zero_le _, rfl, HO.out⟩
  case round =>
    obtain ⟨k, hk, rfl, s, opv, pav, psv, vs, h1, hI, hp, hm⟩ := hrel
    by_cases hlt : k < G.length
    · as_aux_lemma =>
        have hd : decide ((k : Int) < (G.length : Int)) = true := by simpa using hlt
        obtain ⟨⟨oo, oc, rfl, _, _⟩, ⟨ga, ca, rfl, _, _⟩, ⟨gl, cl, rfl, _, _⟩, ⟨gg, cg, rfl, _, _⟩, ⟨po, pc, rfl, _, _⟩⟩ := h1.forms (by omega)
        obtain ⟨a1, _⟩ := (h1.own.own 1 _ _ rfl).at (rngI_get s.A hlt)
        obtain ⟨z0, z1⟩ := downC_cells h1.fx
        obtain ⟨x0, x1, x2, x3, x4, x5, x6⟩ := h1.cells
        have hnw : 0 < G.length := by omega
        have H1 := hid h1
        have HI := hid hI
        have HP := hid hp
        have HM := hid hm
        clear h1 hI hp hm HO
        by_cases hA : s.A k = -1
        · as_aux_lemma =>
            rw [hA] at a1
            have HE := hid (ou_enter H1.out HI.out HP.out hlt hA HM.out)
            have HEn := hid (enter_any H1.out hlt (by have := HI.out.opLen; omega) (by rw [HP.out]; simp) (by omega))
            clear hA
            go_upto_region 7 with fail
            go_wp2_with fail
            refine HEn.out.mono ?_
            rintro e w3 ⟨rfl, opv', pav', h3⟩
            have HT : Hid (Tu (downC b bs (bs + 1)) w0 b G (.slice ao G.length cap) (.slice (some ⟨ga, 0, none⟩) G.length ca) (.slice (some ⟨gl, 0, none⟩) G.length cl) (.slice (some ⟨gg, 0, none⟩) G.length cg) k w3) := .inl ⟨_, _, _, _, _, h3, HE.out.1, HE.out.2.1, HE.out.2.2⟩
            clear h3 HEn HE x0 x1 x2 x3 x4 x5 x6 a1 z0 z1
            go_wp2
            go_loopw [24] (fun _ wr => Tu (downC b bs (bs + 1)) w0 b G (.slice ao G.length cap) (.slice (some ⟨ga, 0, none⟩) G.length ca) (.slice (some ⟨gl, 0, none⟩) G.length cl) (.slice (some ⟨gg, 0, none⟩) G.length cg) k wr) (fun _ wr => memP b wr)
            case atStart => exact HT.out
            case round =>
              rcases hrel with ⟨s', o', p', q', v', h4, hI4, hp4, hm4⟩ | ⟨s', o', p', q', v', h4, hI4, hp4, hm4⟩
              · as_aux_lemma =>
                  obtain ⟨z0, z1⟩ := downC_cells h4.fx
                  obtain ⟨g, c, rfl, hc1, x5, x9, hmp⟩ := tu_one h4 hp4
                  have HH := hid h4
                  have HI4 := hid hI4
                  have HP4 := hid hp4
                  have HMet := hid hm4
                  have HMp := hid hmp
                  clear h4 hI4 hp4 hm4 hmp HT H1 HI HP HM
                  go_upto_region 9 with fail
                  have hS : wr.drew.cell? ⟨bs, 0, none⟩ = some (.pointer (some ⟨b, 0, none⟩)) ∧ wr.drew.cell? ⟨bs + 1, 0, none⟩ = some (downF bs (bs + 1)) := ⟨z0, z1⟩
                  have y5 : wr.drew.cell? ⟨b, 5, none⟩ = some (.slice (some ⟨g, 0, none⟩) 1 c) := x5
                  have y9 : wr.drew.cell? ⟨g, 0, none⟩ = some (.int .i64 (k : Int)) := x9
                  have HCa := hid (down_any HGr.out hn (measG G s') (HH.out.later (w' := wr.drew) (Below.refl _ _).drew) HI4.out HP4.out (Nat.le_refl _))
                  clear z0 z1 x5 x9 HH HI4 HP4
                  obtain ⟨x0, hx0⟩ : ∃ X, X = wr.drew := ⟨_, rfl⟩
                  rw [← hx0] at y5 y9 HCa
                  have hw0 : IntKind.i64.wrap (1 - 1) = 0 := by decide
                  have hw1 : IntKind.i64.wrap 0 = 0 := by decide
                  refine wp_region_held_drew (S := fun w' => w'.cell? ⟨bs, 0, none⟩ = some (.pointer (some ⟨b, 0, none⟩)) ∧ w'.cell? ⟨bs + 1, 0, none⟩ = some (downF bs (bs + 1))) (by kernel_rfl) hS (fun _ => ?_)
                  rw [← hx0] at hS ⊢
                  clear hx0
                  refine wpAnyH_take (i := 0) (v := downF bs (bs + 1)) rfl (by kernel_rfl) (by kernel_rfl) (by kernel_rfl) (fun _ _ _ h => h) (Or.inl ⟨by kernel_rfl, fun w' h => by have hh0 := h.2; go_simp⟩) hS ?_
                  (try simp only [Act.put]); (try simp only [List.setIfInBounds_toArray]); (try simp only [List.set_cons_zero, List.set_cons_succ])
                  refine wpAnyH_take (i := 1) (v := .pointer (some ⟨b, 0, none⟩)) rfl (by kernel_rfl) (by kernel_rfl) (by kernel_rfl) (fun _ _ _ h => h) (Or.inl ⟨by kernel_rfl, fun w' h => by have hh0 := h.1; go_simp⟩) hS ?_
                  (try simp only [Act.put]); (try simp only [List.setIfInBounds_toArray]); (try simp only [List.set_cons_zero, List.set_cons_succ])
                  refine wpAnyH_take (i := 2) (v := .pointer (some ⟨b, 0, none⟩)) rfl (by kernel_rfl) (by kernel_rfl) (by kernel_rfl) (fun _ _ _ h => h) (Or.inl ⟨by kernel_rfl, fun w' h => by go_simp⟩) hS ?_
                  (try simp only [Act.put]); (try simp only [List.setIfInBounds_toArray]); (try simp only [List.set_cons_zero, List.set_cons_succ])
                  refine wpAnyH_take (i := 3) (v := .pointer (some ⟨b, 5, none⟩)) rfl (by kernel_rfl) (by kernel_rfl) (by kernel_rfl) (fun _ _ _ h => h) (Or.inl ⟨by kernel_rfl, fun w' h => by go_simp⟩) hS ?_
                  (try simp only [Act.put]); (try simp only [List.setIfInBounds_toArray]); (try simp only [List.set_cons_zero, List.set_cons_succ])
                  refine wpAnyH_take (i := 5) (v := .pointer (some ⟨b, 0, none⟩)) rfl (by kernel_rfl) (by kernel_rfl) (by kernel_rfl) (fun _ _ _ h => h) (Or.inl ⟨by kernel_rfl, fun w' h => by have hh0 := h.1; go_simp⟩) hS ?_
                  (try simp only [Act.put]); (try simp only [List.setIfInBounds_toArray]); (try simp only [List.set_cons_zero, List.set_cons_succ])
                  refine wpAnyH_take (i := 6) (v := .pointer (some ⟨b, 0, none⟩)) rfl (by kernel_rfl) (by kernel_rfl) (by kernel_rfl) (fun _ _ _ h => h) (Or.inl ⟨by kernel_rfl, fun w' h => by go_simp⟩) hS ?_
                  (try simp only [Act.put]); (try simp only [List.setIfInBounds_toArray]); (try simp only [List.set_cons_zero, List.set_cons_succ])
                  refine wpAnyH_take (i := 7) (v := .pointer (some ⟨b, 5, none⟩)) rfl (by kernel_rfl) (by kernel_rfl) (by kernel_rfl) (fun _ _ _ h => h) (Or.inl ⟨by kernel_rfl, fun w' h => by go_simp⟩) hS ?_
                  (try simp only [Act.put]); (try simp only [List.setIfInBounds_toArray]); (try simp only [List.set_cons_zero, List.set_cons_succ])
                  refine wpAnyH_ready (rs := [4, 8]) (by kernel_rfl) (by simp) (AllReadyH.cons rfl (fun K hK => ?_) (AllReadyH.cons rfl (fun K hK => ?_) AllReadyH.nil))
                  · as_aux_lemma =>
                      go_simp
                      refine hK.out _ _ hS (fun _ => ?_)
                      clear hK K
                      (try simp only [Act.put]); (try simp only [List.setIfInBounds_toArray]); (try simp only [List.set_cons_zero, List.set_cons_succ])
                      refine wpAnyH_ready (rs := [8]) (by kernel_rfl) (by simp) (AllReadyH.cons rfl (fun K hK => ?_) AllReadyH.nil)
                      go_simp
                      refine hK.out _ _ hS (fun _ => ?_)
                      clear hK K
                      (try simp only [Act.put]); (try simp only [List.setIfInBounds_toArray]); (try simp only [List.set_cons_zero, List.set_cons_succ])
                      refine wpAnyH_take (i := 9) (v := .int .i64 1) rfl (by kernel_rfl) (by kernel_rfl) (by kernel_rfl) (fun _ _ _ h => h) (Or.inl ⟨by kernel_rfl, fun w' h => by go_simp⟩) hS ?_
                      (try simp only [Act.put]); (try simp only [List.setIfInBounds_toArray]); (try simp only [List.set_cons_zero, List.set_cons_succ])
                      refine wpAnyH_take (i := 10) (v := .int .i64 0) rfl (by kernel_rfl) (by kernel_rfl) (by kernel_rfl) (fun _ _ _ h => h) (Or.inl ⟨by kernel_rfl, fun w' h => by go_simp⟩) hS ?_
                      (try simp only [Act.put]); (try simp only [List.setIfInBounds_toArray]); (try simp only [List.set_cons_zero, List.set_cons_succ])
                      refine wpAnyH_take (i := 11) (v := .pointer (some ⟨g, 0, none⟩)) rfl (by kernel_rfl) (by kernel_rfl) (by kernel_rfl) (fun _ _ _ h => h) (Or.inl ⟨by kernel_rfl, fun w' h => by go_simp⟩) hS ?_
                      (try simp only [Act.put]); (try simp only [List.setIfInBounds_toArray]); (try simp only [List.set_cons_zero, List.set_cons_succ])
                      refine wpAnyH_ready (rs := [12]) (by kernel_rfl) (by simp) (AllReadyH.cons rfl (fun K hK => ?_) AllReadyH.nil)
                      go_simp
                      refine hK.out _ _ hS (fun _ => ?_)
                      clear hK K
                      (try simp only [Act.put]); (try simp only [List.setIfInBounds_toArray]); (try simp only [List.set_cons_zero, List.set_cons_succ])
                      refine wpAnyH_ready (rs := [13]) (by kernel_rfl) (by simp) (AllReadyH.cons rfl (fun K hK => ?_) AllReadyH.nil)
                      go_simp
                      refine HCa.out.mono ?_
                      rintro e w4 ⟨rfl, hD⟩
                      have hS4 := tu_cells hD
                      have HE := hid (tu_back hD HMet.out HMp.out)
                      refine hK.out _ _ hS4 (fun _ => ?_)
                      clear hK K hS hD HCa
                      have hS := hS4
                      (try simp only [Act.put]); (try simp only [List.setIfInBounds_toArray]); (try simp only [List.set_cons_zero, List.set_cons_succ])
                      refine wpAnyH_done (by kernel_rfl) ?_ _
                      (try simp only [Act.put]); (try simp only [List.getElem_toArray]); (try simp only [List.getElem_cons_succ, List.getElem_cons_zero]); (try simp only [List.setIfInBounds_toArray]); (try simp only [List.set_cons_succ, List.set_cons_zero])
                      go_wp2
                      exact HE.out
                  · as_aux_lemma =>
                      go_simp
                      refine hK.out _ _ hS (fun _ => ?_)
                      clear hK K
                      (try simp only [Act.put]); (try simp only [List.setIfInBounds_toArray]); (try simp only [List.set_cons_zero, List.set_cons_succ])
                      refine wpAnyH_take (i := 9) (v := .int .i64 1) rfl (by kernel_rfl) (by kernel_rfl) (by kernel_rfl) (fun _ _ _ h => h) (Or.inl ⟨by kernel_rfl, fun w' h => by go_simp⟩) hS ?_
                      (try simp only [Act.put]); (try simp only [List.setIfInBounds_toArray]); (try simp only [List.set_cons_zero, List.set_cons_succ])
                      refine wpAnyH_take (i := 10) (v := .int .i64 0) rfl (by kernel_rfl) (by kernel_rfl) (by kernel_rfl) (fun _ _ _ h => h) (Or.inl ⟨by kernel_rfl, fun w' h => by go_simp⟩) hS ?_
                      (try simp only [Act.put]); (try simp only [List.setIfInBounds_toArray]); (try simp only [List.set_cons_zero, List.set_cons_succ])
                      refine wpAnyH_ready (rs := [4]) (by kernel_rfl) (by simp) (AllReadyH.cons rfl (fun K hK => ?_) AllReadyH.nil)
                      go_simp
                      refine hK.out _ _ hS (fun _ => ?_)
                      clear hK K
                      (try simp only [Act.put]); (try simp only [List.setIfInBounds_toArray]); (try simp only [List.set_cons_zero, List.set_cons_succ])
                      refine wpAnyH_take (i := 11) (v := .pointer (some ⟨g, 0, none⟩)) rfl (by kernel_rfl) (by kernel_rfl) (by kernel_rfl) (fun _ _ _ h => h) (Or.inl ⟨by kernel_rfl, fun w' h => by go_simp⟩) hS ?_
                      (try simp only [Act.put]); (try simp only [List.setIfInBounds_toArray]); (try simp only [List.set_cons_zero, List.set_cons_succ])
                      refine wpAnyH_ready (rs := [12]) (by kernel_rfl) (by simp) (AllReadyH.cons rfl (fun K hK => ?_) AllReadyH.nil)
                      go_simp
                      refine hK.out _ _ hS (fun _ => ?_)
                      clear hK K
                      (try simp only [Act.put]); (try simp only [List.setIfInBounds_toArray]); (try simp only [List.set_cons_zero, List.set_cons_succ])
                      refine wpAnyH_ready (rs := [13]) (by kernel_rfl) (by simp) (AllReadyH.cons rfl (fun K hK => ?_) AllReadyH.nil)
                      go_simp
                      refine HCa.out.mono ?_
                      rintro e w4 ⟨rfl, hD⟩
                      have hS4 := tu_cells hD
                      have HE := hid (tu_back hD HMet.out HMp.out)
                      refine hK.out _ _ hS4 (fun _ => ?_)
                      clear hK K hS hD HCa
                      have hS := hS4
                      (try simp only [Act.put]); (try simp only [List.setIfInBounds_toArray]); (try simp only [List.set_cons_zero, List.set_cons_succ])
                      refine wpAnyH_done (by kernel_rfl) ?_ _
                      (try simp only [Act.put]); (try simp only [List.getElem_toArray]); (try simp only [List.getElem_cons_succ, List.getElem_cons_zero]); (try simp only [List.setIfInBounds_toArray]); (try simp only [List.set_cons_succ, List.set_cons_zero])
                      go_wp2
                      exact HE.out
              · as_aux_lemma =>
                  obtain ⟨z0, z1⟩ := downC_cells h4.fx
                  obtain ⟨ao4, c4, x5⟩ := tu_none h4 hp4
                  have HO4 : Hid (Ou (downC b bs (bs + 1)) w0 b G (.slice ao G.length cap) (.slice (some ⟨ga, 0, none⟩) G.length ca) (.slice (some ⟨gl, 0, none⟩) G.length cl) (.slice (some ⟨gg, 0, none⟩) G.length cg) (k + 1) wr) := ⟨s', o', p', q', v', h4, hI4, hp4, hm4⟩
                  clear h4 hI4 hp4 hm4 HT H1 HI HP HM
                  go_wp2
                  go_roundw
                  case rel => exact ⟨k + 1, hlt, by go_num, HO4.out⟩
                  case measure => simp only [intOf]; omega
        · as_aux_lemma =>
            have hA2 : (s.A k == -1) = false := by simpa using hA
            have HO4 : Hid (Ou (downC b bs (bs + 1)) w0 b G (.slice ao G.length cap) (.slice (some ⟨ga, 0, none⟩) G.length ca) (.slice (some ⟨gl, 0, none⟩) G.length cl) (.slice (some ⟨gg, 0, none⟩) G.length cg) (k + 1) wr) := ⟨s, _, _, _, _, H1.out, HI.out, HP.out, fun x hx => by by_cases e : x = k; subst e; exact hA; exact HM.out x (by omega)⟩
            have hpz : s.pa.length = 0 := by rw [HP.out]; rfl
            rw [hpz] at x5
            clear hpz hA H1 HI HP HM
            go_wp2
            go_loopw [24] (fun _ wc => wc = wr) (fun _ _ => 0)
            case atStart => rfl
            case round =>
              have hw := hrel.symm
              subst hw
              clear hrel
              go_wp2
              go_roundw
              case rel => exact ⟨k + 1, hlt, by go_num, HO4.out⟩
              case measure => simp only [intOf]; omega
    · obtain rfl : k = G.length := by omega
      have HF : Hid (Ou (downC b bs (bs + 1)) w0 b G (.slice ao G.length cap) atv lev gov G.length wr) := ⟨s, opv, pav, psv, vs, h1, hI, hp, hm⟩
      clear h1 hI hp hm
      go_wp2
      go_end0
      exact ⟨rfl, _, HF.out⟩

end Go.Proofs.Ytmokokhhheonoaa

/- Plain arithmetic: rows of limbs of 32 bits and the number that they are; no Go in it. -/
namespace Go.Proofs.Ytmokokhhheonoaa

/-- What a row of limbs is worth, the lowest first. -/
def val : List Nat → Nat
  | [] => 0
  | x :: r => x + 4294967296 * val r

/-- Each limb is below 2^32. -/
def Lim (xs : List Nat) : Prop := ∀ x ∈ xs, x < 4294967296

end Go.Proofs.Ytmokokhhheonoaa

/- Rows of limbs in memory: a slice that is read, a slice that a call owns; the plain facts on them that the walks use. -/
namespace Go.Proofs.Ytmokokhhheonoaa
open Go.RowKit

/-- A limb as a value. -/
def U (x : Nat) : Value := .int .u32 (x : Int)

/-- The slice value v reads as the limbs xs (of an empty one the address is whatever). -/
def Sl (w : World) (v : Value) (xs : List Nat) : Prop :=
  Lim xs ∧ ∃ ao cap, v = .slice ao xs.length cap ∧ xs.length ≤ cap ∧ cap ≤ maxLen ∧
    (0 < xs.length → ∃ g off, ao = some ⟨g, off, none⟩ ∧ g < w.heap.size ∧ ∀ (k x : Nat), xs[k]? = some x → w.cell? ⟨g, off + k, none⟩ = some (.int .u32 (x : Int)))

end Go.Proofs.Ytmokokhhheonoaa

/- Monomials and polynomials as plain data, and what the checks say of them. -/
namespace Go.Proofs.Ytmokokhhheonoaa

/-- A monomial: its limbs and its exponents. -/
abbrev Mn := List Nat × List Int

/-- Which of two rows of numbers comes first, where a row that goes on is behind the one that ends. -/
def cmpX : List Int → List Int → Int
  | [], [] => 0
  | [], _ :: _ => -1
  | _ :: _, [] => 1
  | a :: az, b :: bs => if a < b then -1 else if b < a then 1 else cmpX az bs

theorem cmpX_drop {az bs : List Int} : ∀ k, az.take k = bs.take k → k ≤ az.length → k ≤ bs.length → cmpX az bs = cmpX (az.drop k) (bs.drop k) := by
  intro k
  induction k generalizing az bs with
  | zero => intros; rfl
  | succ k ih =>
    intro h ha hb
    match az, bs with
    | [], _ => simp at ha
    | _ :: _, [] => simp at hb
    | a :: az, b :: bs =>
      simp only [List.take_succ_cons, List.cons.injEq] at h
      obtain ⟨rfl, h⟩ := h
      simp only [List.drop_succ_cons, cmpX, Int.lt_irrefl, if_false]
      exact ih h (by simpa using ha) (by simpa using hb)

theorem drop_getY {α : Type} {az : List α} {k : Nat} {x : α} (h : az[k]? = some x) : az.drop k = x :: az.drop (k + 1) := by
  have hk := (List.getElem?_eq_some_iff.1 h)
  obtain ⟨hk, rfl⟩ := hk
  exact List.drop_eq_getElem_cons hk

theorem take_getY {α : Type} {az : List α} {k : Nat} {x : α} (h : az[k]? = some x) : az.take (k + 1) = az.take k ++ [x] := by
  rw [List.take_add_one, h]; rfl

end Go.Proofs.Ytmokokhhheonoaa

/- Rows of monomials and rows of rows in memory, as they are read. -/
namespace Go.Proofs.Ytmokokhhheonoaa
open Go.RowKit

/-- A monomial's two rows. -/
def Mo (w : World) (cv ev : Value) (m : Mn) : Prop := Sl w cv m.1 ∧ Is w ev m.2

/-- A monomial at an address. -/
def EM (w : World) (g o : Nat) (m : Mn) : Prop := ∃ cv ev, w.cell? ⟨g, o, none⟩ = some cv ∧ w.cell? ⟨g, o + 1, none⟩ = some ev ∧ Mo w cv ev m

/-- A row of monomials. -/
def Ms (w : World) (v : Value) (p : List Mn) : Prop := Row EM 2 w v p

/-- A row at an address. -/
def EV {β : Type} (R : World → Value → β → Prop) (w : World) (g o : Nat) (x : β) : Prop := ∃ u, w.cell? ⟨g, o, none⟩ = some u ∧ R w u x

def Ps (w : World) (v : Value) (xs : List (List Mn)) : Prop := Row (EV Ms) 1 w v xs

end Go.Proofs.Ytmokokhhheonoaa

/- What the comparisons of exponents answer. -/
namespace Go.Proofs.Ytmokokhhheonoaa
open Go.RowKit

def cmpZ (a b : Int) : Int := if a < b then -1 else if b < a then 1 else 0

theorem cmpInt_any (a b : Int) (w : World) : Calls Try.prog 27 #[.int .i64 a, .int .i64 b] w fun e w' => e = .returned (.int .i64 (cmpZ a b)) ∧ w' = w := by
  by_cases h1 : a < b
  · go_enter Try.func27, Try.ntmps27
    go_wp2
    go_ret
    exact ⟨ret1i (by simp [cmpZ, h1]), rfl⟩
  · by_cases h2 : b < a
    · go_enter Try.func27, Try.ntmps27
      go_wp2
      go_ret
      exact ⟨ret1i (by simp [cmpZ, h1, h2]), rfl⟩
    · go_enter Try.func27, Try.ntmps27
      go_wp2
      go_ret
      exact ⟨ret1i (by rw [cmpZ, if_neg (by omega), if_neg (by omega)]), rfl⟩

theorem cmpX_at {es fs : List Int} {k : Nat} {a b : Int} (ht : es.take k = fs.take k) (ha : es[k]? = some a) (hb : fs[k]? = some b) : (¬ a = b → cmpX es fs = cmpZ a b) ∧ (a = b → es.take (k + 1) = fs.take (k + 1)) := by
  have h1 := (List.getElem?_eq_some_iff.1 ha).1
  have h2 := (List.getElem?_eq_some_iff.1 hb).1
  refine ⟨fun hne => ?_, fun h => ?_⟩
  · rw [cmpX_drop k ht (by omega) (by omega), drop_getY ha, drop_getY hb]
    unfold cmpX cmpZ
    by_cases h3 : a < b
    · rw [if_pos h3, if_pos h3]
    · have h4 : b < a := by omega
      rw [if_neg h3, if_pos h4, if_neg h3, if_pos h4]
  · subst h
    rw [take_getY ha, take_getY hb, ht]

theorem cmpX_end1 {es fs : List Int} (ht : es.take fs.length = fs.take fs.length) (h : fs.length < es.length) : cmpX es fs = 1 := by
  rw [cmpX_drop fs.length ht (by omega) (by omega), List.drop_of_length_le (Nat.le_refl fs.length)]
  match hes : es.drop fs.length with
  | [] => have := congrArg List.length hes; simp at this; omega
  | _ :: _ => rfl

theorem cmpX_end2 {es fs : List Int} (ht : es.take es.length = fs.take es.length) (h : es.length ≤ fs.length) : cmpX es fs = if es.length < fs.length then -1 else 0 := by
  rw [cmpX_drop es.length ht (by omega) (by omega), List.drop_of_length_le (Nat.le_refl es.length)]
  match hbs : fs.drop es.length with
  | [] => have := congrArg List.length hbs; simp at this; rw [if_neg (by omega)]; rfl
  | _ :: _ => have := congrArg List.length hbs; simp at this; rw [if_pos (by omega)]; rfl

theorem cmpZ_ne {a b : Int} (h : ¬ a = b) : ¬ cmpZ a b = 0 := by unfold cmpZ; split; omega; split; omega; omega

theorem cmpZ_eq (a : Int) : cmpZ a a = 0 := by simp [cmpZ]

set_option maxHeartbeats 800000 in
theorem slicesCompare_any (v u : Value) (es fs : List Int) (w : World) (h : Is w v es) (h' : Is w u fs) :
    Calls Try.prog 20 #[v, u] w fun e w' => e = .returned (.int .i64 (cmpX es fs)) ∧ w' = w := by
  obtain ⟨ao, cap, rfl, hao, hca, hcl⟩ := h.flat
  obtain ⟨bo, cap', rfl, hbo, hcb, hcl'⟩ := h'.flat
  unfold maxLen at hca hcb
  clear h h'
  go_enter Try.func20, Try.ntmps20
  go_wp2
  go_loopw [11] (fun i wr => ∃ k : Nat, k ≤ es.length ∧ k ≤ fs.length ∧ i = .int .i64 k ∧ es.take k = fs.take k ∧ wr = w) (fun i _ => es.length - (intOf i).toNat)
  case atStart => exact ⟨0, by omega, by omega, rfl, rfl, rfl⟩
  case round =>
    obtain ⟨k, hk, hk', rfl, ht, hw⟩ := hrel
    subst hw
    have HT : Hid (es.take k = fs.take k) := ht
    clear ht
    by_cases hlt : k < es.length
    · obtain ⟨g, off, x, rfl, hx1, hx2, hx3, hx4⟩ := hcl k hlt
      have HX : Hid (es[k]? = some x) := hx1
      rw [Nat.mul_one] at hx4
      clear hx1 hcl
      by_cases hlt' : k < fs.length
      · obtain ⟨g', off', y, rfl, hy1, hy2, hy3, hy4⟩ := hcl' k hlt'
        have HY : Hid (fs[k]? = some y) := hy1
        rw [Nat.mul_one] at hy4
        clear hy1 hcl'
        by_cases hxy : x = y
        · subst hxy
          go_wp2_with (go_at_call 27; refine (cmpInt_any x x _).mono ?_; rw [cmpZ_eq]; rintro e w' ⟨rfl, rfl⟩)
          go_roundw
          case rel => exact ⟨k + 1, by omega, by omega, by go_num, (cmpX_at HT.out HX.out HY.out).2 rfl, trivial⟩
          case measure => simp [intOf]; omega
        · have hne := cmpZ_ne hxy
          have HR : Hid (cmpX es fs = cmpZ x y) := (cmpX_at HT.out HX.out HY.out).1 hxy
          obtain ⟨c, hc⟩ : ∃ c, c = cmpZ x y := ⟨_, rfl⟩
          rw [← hc] at hne
          have HC : Hid (c = cmpZ x y) := hc
          have hcb0 : (c != 0) = true := by rw [bne_iff_ne]; exact hne
          clear hc
          go_wp2_with (go_at_call 27; refine (cmpInt_any x y _).mono ?_; rw [← HC.out]; rintro e w' ⟨rfl, rfl⟩)
          go_ret
          exact ⟨ret1i (by rw [HR.out, HC.out]), rfl⟩
      · have hkb : k = fs.length := by omega
        subst hkb
        clear hcl'
        go_wp2
        go_ret
        exact ⟨ret1i (cmpX_end1 HT.out (by omega)).symm, rfl⟩
    · have hka : k = es.length := by omega
      subst hka
      have HR := cmpX_end2 HT.out (by omega)
      clear hcl hcl'
      by_cases h2 : es.length < fs.length
      · rw [if_pos h2] at HR
        have HR : Hid (cmpX es fs = -1) := HR
        go_wp2
        go_ret
        exact ⟨ret1i HR.out.symm, rfl⟩
      · rw [if_neg h2] at HR
        have HR : Hid (cmpX es fs = 0) := HR
        go_wp2
        go_ret
        exact ⟨ret1i HR.out.symm, rfl⟩

end Go.Proofs.Ytmokokhhheonoaa

/- slices.SortFunc at rows of numbers whose first ones tell them apart. -/
namespace Go.Proofs
open Go.Shelf Go.RowKit Go.Lib Go.Sort

def Try.sortFL_ren : Go.Shelf.Ren := ⟨fun | 6 => 19 | 15 => 26 | 14 => 25 | 28 => 38 | 29 => 39 | 20 => 30 | 21 => 31 | 22 => 32 | 23 => 33 | 24 => 34 | 25 => 35 | 26 => 36 | 27 => 37 | 46 => 46 | 47 => 47 | 48 => 48 | 49 => 49 | 50 => 50 | 57 => 53 | n => n, fun | 22 => 22 | 24 => 26 | 25 => 39 | 3 => 3 | 39 => 45 | 0 => 0 | 53 => 58 | 55 => 60 | 4 => 4 | 46 => 51 | 45 => 50 | 50 => 55 | 5 => 5 | 9 => 9 | 66 => 69 | 70 => 73 | 76 => 77 | 77 => 78 | n => n, fun | n => n⟩
theorem Try.sortFL : Go.Proofs.SlLaysF.n6 Try.prog Try.sortFL_ren := {
  mixed := by kernel_rfl
  f6 := ⟨Try.f19.name, by decide, Try.func19.trans (congrArg some (by kernel_rfl))⟩
  f14 := ⟨Try.f25.name, by decide, Try.func25.trans (congrArg some (by kernel_rfl))⟩
  f15 := Try.func26.trans (congrArg some (by kernel_rfl))
  f20 := ⟨Try.f30.name, by decide, Try.func30.trans (congrArg some (by kernel_rfl))⟩
  f21 := ⟨Try.f31.name, by decide, Try.func31.trans (congrArg some (by kernel_rfl))⟩
  f22 := ⟨Try.f32.name, by decide, Try.func32.trans (congrArg some (by kernel_rfl))⟩
  f23 := ⟨Try.f33.name, by decide, Try.func33.trans (congrArg some (by kernel_rfl))⟩
  f24 := ⟨Try.f34.name, by decide, Try.func34.trans (congrArg some (by kernel_rfl))⟩
  f25 := ⟨Try.f35.name, by decide, Try.func35.trans (congrArg some (by kernel_rfl))⟩
  f26 := ⟨Try.f36.name, by decide, Try.func36.trans (congrArg some (by kernel_rfl))⟩
  f27 := ⟨Try.f37.name, by decide, Try.func37.trans (congrArg some (by kernel_rfl))⟩
  f28 := Try.func38.trans (congrArg some (by kernel_rfl))
  f29 := Try.func39.trans (congrArg some (by kernel_rfl))
  f46 := ⟨Try.f46.name, by decide, Try.func46.trans (congrArg some (by kernel_rfl))⟩
  f47 := Try.func47.trans (congrArg some (by kernel_rfl))
  f48 := Try.func48.trans (congrArg some (by kernel_rfl))
  f49 := ⟨Try.f49.name, by decide, Try.func49.trans (congrArg some (by kernel_rfl))⟩
  f50 := ⟨Try.f50.name, by decide, Try.func50.trans (congrArg some (by kernel_rfl))⟩
  f57 := ⟨Try.f53.name, by decide, Try.func53.trans (congrArg some (by kernel_rfl))⟩
  t0 := Try.underlying0
  a0 := Try.isAgg0
  z0 := Try.sizeOf0
  v0 := Try.zeroValue0
  t3 := Try.underlying3
  a3 := Try.isAgg3
  z3 := Try.sizeOf3
  v3 := Try.zeroValue3
  t4 := Try.underlying4
  a4 := Try.isAgg4
  z4 := Try.sizeOf4
  v4 := Try.zeroValue4
  t5 := Try.underlying5
  a5 := Try.isAgg5
  z5 := Try.sizeOf5
  v5 := Try.zeroValue5
  t9 := Try.underlying9
  a9 := Try.isAgg9
  z9 := Try.sizeOf9
  v9 := Try.zeroValue9
  t22 := Try.underlying22
  a22 := Try.isAgg22
  z22 := Try.sizeOf22
  v22 := Try.zeroValue22
  a24 := Try.isAgg26
  z24 := Try.sizeOf26
  t25 := Try.underlying39
  a25 := Try.isAgg39
  z25 := Try.sizeOf39
  v25 := Try.zeroValue39
  t39 := Try.underlying45
  a39 := Try.isAgg45
  z39 := Try.sizeOf45
  v39 := Try.zeroValue45
  t45 := Try.underlying50
  a45 := Try.isAgg50
  z45 := Try.sizeOf50
  v45 := Try.zeroValue50
  t46 := Try.underlying51
  a46 := Try.isAgg51
  z46 := Try.sizeOf51
  v46 := Try.zeroValue51
  t50 := Try.underlying55
  a50 := Try.isAgg55
  z50 := Try.sizeOf55
  v50 := Try.zeroValue55
  t53 := Try.underlying58
  a53 := Try.isAgg58
  z53 := Try.sizeOf58
  v53 := Try.zeroValue58
  t55 := Try.underlying60
  a55 := Try.isAgg60
  z55 := Try.sizeOf60
  v55 := Try.zeroValue60
  t66 := Try.underlying69
  a66 := Try.isAgg69
  z66 := Try.sizeOf69
  v66 := Try.zeroValue69
  t70 := Try.underlying73
  a70 := Try.isAgg73
  z70 := Try.sizeOf73
  v70 := Try.zeroValue73
  t76 := Try.underlying77
  a76 := Try.isAgg77
  z76 := Try.sizeOf77
  v76 := Try.zeroValue77
  t77 := Try.underlying78
  a77 := Try.isAgg78
  z77 := Try.sizeOf78
  v77 := Try.zeroValue78 }

end Go.Proofs

namespace Go.Proofs.Ytmokokhhheonoaa
open Go.RowKit Go.Maps Go.Sort Go.Shelf

def hd14 (p : Value × List Nat) : Nat := p.2.head?.getD 0

theorem cmp_self14 : ∀ es : List Int, cmpX es es = 0
  | [] => rfl
  | x :: es => by unfold cmpX; rw [if_neg (by omega), if_neg (by omega)]; exact cmp_self14 es

theorem cmp_heads14 {P Q : List Nat} (hp : P ≠ []) (hq : Q ≠ []) (h : P.head?.getD 0 ≠ Q.head?.getD 0) : decide (cmpX (natL P) (natL Q) < 0) = decide (P.head?.getD 0 < Q.head?.getD 0) := by
  cases P with
  | nil => exact absurd rfl hp
  | cons p ps =>
    cases Q with
    | nil => exact absurd rfl hq
    | cons q qs =>
      simp only [List.head?_cons, Option.getD_some] at h ⊢
      show decide (cmpX ((p : Int) :: natL ps) ((q : Int) :: natL qs) < 0) = _
      unfold cmpX
      by_cases h1 : p < q
      · rw [if_pos (by omega)]; simp [h1]
      · rw [if_neg (show ¬ ((p : Int) < (q : Int)) by omega), if_pos (show (q : Int) < (p : Int) by omega)]
        have h2 : ¬ p < q := h1
        simp [h2]

theorem heap_sort14 {α : Type} [Inhabited α] {enc : α → Value} {w : World} {blk off n k : Nat} {d : Array α} {os : Array Obj} (hk : k < w.heap.size) (hne : k ≠ blk) : (sortWorld enc w blk off n d os).heap[k]? = w.heap[k]? := by
  unfold sortWorld
  rw [heap_grow_old _ _ (by simpa using hk)]
  have : blk ≠ k := fun e => hne e.symm
  simp [putRow, mapBlock, Sort.ahead, Array.getElem?_modify, this]

theorem grown_sort14 {α : Type} [Inhabited α] {enc : α → Value} {w : World} {blk off n : Nat} (d : Array α) {os : Array Obj} : w.grownBy (sortWorld enc w blk off n d os) (some blk) :=
  ⟨rfl, rfl, rfl, by simp [sortWorld], fun k hk hne => heap_sort14 hk (fun e => hne (by rw [e]))⟩

set_option maxRecDepth 100000 in
set_option maxHeartbeats 1600000 in
theorem sort14_any {w : World} {base b2 : Nat} {v : Value} {L : List (Value × List Nat)} (ho : w.ownsRow base 26 1 v L.length (L.map Prod.fst)) (hr : ∀ p, p ∈ L → OwI w b2 p.1 (natL p.2)) (hne : ∀ p, p ∈ L → p.2 ≠ []) (hh : ∀ p, p ∈ L → ∀ q, q ∈ L → hd14 p = hd14 q → p = q) (hnd : L.Nodup) (hn : L.length < 4611686018427387904) :
    Calls Try.prog 19 #[v, .func (.func 20) #[] #[]] w fun e w' => e = .returned (.tuple #[]) ∧ w.grownBy w' v.ownBlock ∧ ∃ M : List (Value × List Nat), M.Perm L ∧ M.Pairwise (fun p q => hd14 p < hd14 q) ∧ w'.ownsRow base 26 1 v M.length (M.map Prod.fst) := by
  by_cases h0 : L = []
  · subst h0
    have hv : ∃ p c, v = .slice p 0 c := by
      rcases ho.2 with ⟨rfl, _⟩ | ⟨g, cap, cur, rfl, _⟩
      · exact ⟨_, _, rfl⟩
      · exact ⟨_, _, rfl⟩
    obtain ⟨p, c, rfl⟩ := hv
    have hcon := AnyF.slices_SortFunc_none (P := Try.prog) (ρ := Try.sortFL_ren) { Try.sortFL with } p c (.func (.func 20) #[] #[]) w
    change Calls Try.prog 19 _ _ _ at hcon
    refine hcon.mono ?_
    rintro e w' ⟨rfl, rfl⟩
    exact ⟨rfl, World.grownBy.refl _ _, [], List.Perm.refl _, List.Pairwise.nil, ho⟩
  · have hpos : 0 < L.length := List.length_pos_iff.2 h0
    rcases ho.2 with ⟨_, hz⟩ | ⟨g, cap, cur, rfl, hb, hg, hc, hm, hs, ht⟩
    · omega
    · have hblk : g < w.heap.size := (Array.getElem?_eq_some_iff.1 hg).1
      obtain ⟨p0, hp0⟩ : ∃ p, p ∈ L := List.exists_mem_of_ne_nil L h0
      letI hI : Inhabited { p : Value × List Nat // p ∈ L } := ⟨⟨p0, hp0⟩⟩
      let enc : { p : Value × List Nat // p ∈ L } → Value := fun x => x.1.1
      let cf : { p : Value × List Nat // p ∈ L } → { p : Value × List Nat // p ∈ L } → Int := fun x y => cmpX (natL x.1.2) (natL y.1.2)
      have hlt : ∀ x y, ltOf cf x y = decide (hd14 x.1 < hd14 y.1) := fun x y => by
        show decide (cmpX (natL x.1.2) (natL y.1.2) < 0) = _
        by_cases e : hd14 x.1 = hd14 y.1
        · have := hh x.1 x.2 y.1 y.2 e
          rw [this, cmp_self14]
          simp
        · exact cmp_heads14 (hne _ x.2) (hne _ y.2) e
      have hO : SWO (ltOf cf) := ⟨fun x => by rw [hlt]; simp, fun x y z h1 h2 => by rw [hlt] at *; simp at *; omega, fun x y z h1 h2 => by rw [hlt] at *; simp at *; omega⟩
      have hT : ∀ x y, ltOf cf x y = false → ltOf cf y x = false → x = y := fun x y h1 h2 => by
        rw [hlt] at h1 h2
        simp at h1 h2
        exact Subtype.ext (hh x.1 x.2 y.1 y.2 (by omega))
      have h1 : OneCell enc := fun x => by
        obtain ⟨ao, c, hv, _⟩ := (hr x.1 x.2).shape
        show x.1.1.oneCell' = true
        rw [hv]
        rfl
      have hds : L.attach.toArray.size = L.length := by simp
      have hcell : ∀ j, j < L.length → ∃ x, L.attach[j]? = some x ∧ w.cell? ⟨g, j, none⟩ = some x.1.1 ∧ w.frozen? ⟨g, j, none⟩ = false := fun j hj => by
        have e := World.ownsRow.cellAt ho j (by omega)
        refine ⟨⟨L[j], List.getElem_mem hj⟩, by simp [hj], ?_, World.ownsRow.frozenAt ho j⟩
        rw [e]
        simp [hj]
      have hH : Holds enc w g 0 L.attach.toArray := fun j hj => by
        obtain ⟨x, hx1, hx2, hx3⟩ := hcell j (by rw [← hds]; exact hj)
        rw [Nat.zero_add]
        refine ⟨?_, hx3⟩
        rw [hx2]
        have : L.attach.toArray[j]! = x := by
          have : L.attach.toArray[j]? = some x := by simpa using hx1
          rw [getElem!_def, this]
        rw [this]
      have hcmp : CmpLays1 Try.prog 20 #[] enc cf g 0 L.attach.toArray.size w := fun m os dk _ x y => by
        have kis : ∀ z : { p : Value × List Nat // p ∈ L }, Is (sortWorld enc w g 0 m dk os) z.1.1 (natL z.1.2) := fun z =>
          ((hr z.1 z.2).kept (grown_sort14 dk) (.inr (own_ne (hr z.1 z.2).2 hg (by decide)))).is
        refine (slicesCompare_any _ _ _ _ _ (kis x) (kis y)).mono ?_
        rintro e w' ⟨rfl, rfl⟩
        exact ⟨rfl, 0, #[], by rw [grow_empty]; rfl⟩
      have eg : ∀ args w, (callFunc 20 args).run Try.prog w = .ok (.enter 20 args) w := enters_of Try.func20 (by kernel_rfl) rfl
      have hcon := Any.slices_SortFunc_total Try.sortFL enc h1 cf hO 20 #[] g 0 cap L.attach.toArray w eg hcmp hH hblk (by rw [hds]; exact hn) hT
      change Calls Try.prog 19 _ _ _ at hcon
      rw [hds] at hcon
      refine hcon.mono ?_
      rintro e w' ⟨rfl, n, os, rfl⟩
      refine ⟨rfl, grown_sort14 _, ?_⟩
      obtain ⟨S, hS⟩ : ∃ S, S = L.attach.mergeSort fun x y => !(ltOf cf) y x := ⟨_, rfl⟩
      have hperm : S.Perm L.attach := by rw [hS]; exact List.mergeSort_perm _ _
      have hpm : (S.map Subtype.val).Perm L := by
        have := hperm.map Subtype.val
        rwa [List.attach_map_subtype_val] at this
      have hSl : S.length = L.length := by rw [hperm.length_eq]; simp
      have hsort : S.Pairwise (fun x y => (!(ltOf cf) y x) = true) := by
        rw [hS]
        exact List.pairwise_mergeSort (fun a b c h1 h2 => by rw [hlt] at *; simp at *; omega) (fun a b => by rw [hlt, hlt]; simp; omega) _
      have hnd2 : (S.map Subtype.val).Nodup := hpm.nodup_iff.2 hnd
      refine ⟨S.map Subtype.val, hpm, ?_, ?_⟩
      · rw [List.pairwise_map]
        have h3 := hsort.and (List.pairwise_map.1 hnd2)
        refine h3.imp fun {a b} hab => ?_
        have e1 := hab.1
        rw [hlt] at e1
        simp at e1
        have : hd14 a.1 ≠ hd14 b.1 := fun e => hab.2 (hh a.1 a.2 b.1 b.2 e)
        omega
      · have hgg : (sortWorld enc w g 0 n S.toArray os).heap[g]? = some (.cells (putCells enc 0 S.toArray cur) 26 (0, 0)) := by
          unfold sortWorld
          rw [heap_grow_old _ _ (by simpa using hblk)]
          simp [putRow, mapBlock, Sort.ahead, Array.getElem?_modify, hg, onCells]
        show (sortWorld enc w g 0 n (L.attach.mergeSort fun x y => !(ltOf cf) y x).toArray os).ownsRow base 26 1 (.slice (some ⟨g, 0, none⟩) L.length cap) (S.map Subtype.val).length ((S.map Subtype.val).map Prod.fst)
        rw [← hS, List.length_map, hSl]
        refine ⟨by simp [hSl], .inr ⟨g, cap, _, rfl, hb, hgg, hc, hm, by simp [putCells, hs], ?_⟩⟩
        rw [Nat.mul_one]
        apply List.ext_getElem?
        intro t
        by_cases htt : t < L.length
        · rw [List.getElem?_take_of_lt htt]
          have htc : t < cur.size := by rw [hs]; omega
          simp [putCells, htc, hSl, htt, enc]
        · rw [List.getElem?_eq_none (by simp; omega), List.getElem?_eq_none (by simp [hSl]; omega)]

end Go.Proofs.Ytmokokhhheonoaa

/- Parts of package graph walked. -/
namespace Go.Proofs.Ytmokokhhheonoaa
open Go.RowKit Go.Maps Go.BigFrame

theorem zip_at14 {α β : Type} {xs : List α} {ys : List β} {p : α × β} (h : p ∈ xs.zip ys) : ∃ i : Nat, xs[i]? = some p.1 ∧ ys[i]? = some p.2 ∧ (xs.zip ys)[i]? = some p := by
  obtain ⟨i, hi⟩ := List.getElem?_of_mem h
  have := List.getElem?_zip_eq_some.1 hi
  exact ⟨i, this.1, this.2, hi⟩

theorem SM.parts {F : List (Nat × Value × TypeId)} {w0 w : World} {b : Nat} {G : List (List Int)} {s : Sr} {gv opv atv lev gov pav psv : Value} {vs : List Value} (h : SM F w0 w b G.length s gv opv atv lev gov pav psv vs) (hI : SInv G s) :
    (vs.zip s.ps).map Prod.fst = vs ∧ (vs.zip s.ps).map Prod.snd = s.ps ∧ (vs.zip s.ps).length = s.ps.length ∧ (∀ p, p ∈ vs.zip s.ps → OwI w w0.heap.size p.1 (natL p.2)) ∧ (∀ p, p ∈ vs.zip s.ps → p.2 ≠ []) ∧ (∀ p, p ∈ vs.zip s.ps → ∀ q, q ∈ vs.zip s.ps → hd14 p = hd14 q → p = q) ∧ (vs.zip s.ps).Nodup := by
  have hne : ∀ P, P ∈ s.ps → P ≠ [] := fun P hP => by
    obtain ⟨i, hi, hk, _⟩ := hI.prt P hP
    exact List.ne_nil_of_mem ((hk i).2 ⟨hi, hi⟩)
  have hdm : ∀ P, P ∈ s.ps → P.head?.getD 0 ∈ P := fun P hP => by
    have := hne P hP
    cases P with
    | nil => exact absurd rfl this
    | cons p ps => simp
  have apart : ∀ (i j : Nat) (P Q : List Nat), s.ps[i]? = some P → s.ps[j]? = some Q → P.head?.getD 0 = Q.head?.getD 0 → i = j := fun i j P Q hi hj e => by
    have hd := List.pairwise_iff_getElem.1 hI.prd
    obtain ⟨hil, rfl⟩ := List.getElem?_eq_some_iff.1 hi
    obtain ⟨hjl, rfl⟩ := List.getElem?_eq_some_iff.1 hj
    rcases Nat.lt_trichotomy i j with hlt | hlt | hlt
    · exact absurd (by rw [e]; exact hdm _ (List.getElem_mem hjl)) (hd i j hil hjl hlt _ (hdm _ (List.getElem_mem hil)))
    · exact hlt
    · exact absurd (by rw [← e]; exact hdm _ (List.getElem_mem hil)) (hd j i hjl hil hlt _ (hdm _ (List.getElem_mem hjl)))
  refine ⟨List.map_fst_zip (by rw [h.len]; exact Nat.le_refl _), List.map_snd_zip (by rw [h.len]; exact Nat.le_refl _), by rw [List.length_zip, h.len, Nat.min_self], fun p hp => ?_, fun p hp => ?_, fun p hp q hq e => ?_, ?_⟩
  · obtain ⟨i, h1, h2, _⟩ := zip_at14 hp
    refine h.own.own (i + 5) p.1 (natL p.2) ?_
    show (vs.zip (s.ps.map natL))[i]? = _
    rw [List.getElem?_zip_eq_some]
    exact ⟨h1, by rw [List.getElem?_map, h2]; rfl⟩
  · obtain ⟨i, _, h2, _⟩ := zip_at14 hp
    exact hne _ (List.mem_of_getElem? h2)
  · obtain ⟨i, _, h2, h3⟩ := zip_at14 hp
    obtain ⟨j, _, k2, k3⟩ := zip_at14 hq
    have := apart i j _ _ h2 k2 e
    subst this
    rw [h3] at k3
    exact Option.some.inj k3
  · refine List.pairwise_iff_getElem.2 fun i j hi hj hij e => ?_
    have e1 := List.getElem?_zip_eq_some.1 (List.getElem?_eq_getElem hi)
    have e2 := List.getElem?_zip_eq_some.1 (List.getElem?_eq_getElem hj)
    have := apart i j _ _ e1.2 e2.2 (by rw [e])
    omega

/-- What Parts answers. -/
def PO14 (w0 w : World) (G : List (List Int)) (v : Value) (vs : List Value) (Ps : List (List Nat)) : Prop :=
  w.ownsRow w0.heap.size 26 1 v Ps.length vs ∧ vs.length = Ps.length ∧ OwR w w0.heap.size vs (Ps.map natL) ∧ Below w0.heap.size w0 w ∧ IsParts (Ed G) Ps

theorem po_mk {F : List (Nat × Value × TypeId)} {w0 w w' : World} {b : Nat} {G : List (List Int)} {s : Sr} {gv opv atv lev gov pav psv : Value} {vs : List Value} {M : List (Value × List Nat)} (h : SM F w0 w b G.length s gv opv atv lev gov pav psv vs) (hI : SInv G s) (hp : s.pa = []) (hm : ∀ x, x < G.length → s.A x ≠ -1)
    (hg : w.grownBy w' psv.ownBlock) (hM : M.Perm (vs.zip s.ps)) (hr : M.Pairwise (fun p q => hd14 p < hd14 q)) (ho : w'.ownsRow w0.heap.size 26 1 psv M.length (M.map Prod.fst)) : PO14 w0 w' G psv (M.map Prod.fst) (M.map Prod.snd) := by
  obtain ⟨h1, h2, h3, h4, h5, h6, h7⟩ := h.parts hI
  refine ⟨by rw [List.length_map]; exact ho, by simp, ⟨by simp, fun j u x hu hx => ?_⟩, h.bel.grown hg h.bel.size (fun k hk => own_blk h.row hk), hI.done hp hm (fun P => ?_) ?_⟩
  · rw [List.getElem?_map] at hu hx
    rw [List.getElem?_map] at hx
    cases hMj : M[j]? with
    | none => rw [hMj] at hu; simp at hu
    | some p =>
      rw [hMj] at hu hx
      simp at hu hx
      subst hu hx
      have hp := h4 p (hM.mem_iff.1 (List.mem_of_getElem? hMj))
      exact hp.kept hg (ownsRow_apart hp.2 h.row (by decide))
  · have := (hM.map Prod.snd).mem_iff (a := P)
    rw [h2] at this
    exact this
  · rw [List.pairwise_map]
    refine List.Pairwise.imp_of_mem (fun {p q} hpm hqm hpq a c ha hc => ?_) hr
    unfold hd14 at hpq
    rw [ha, hc] at hpq
    exact hpq

set_option maxRecDepth 100000 in
set_option maxHeartbeats 1600000 in
theorem parts_any14 {w : World} {gv : Value} {G : List (List Int)} (hG : Rs w gv G) (hn : G.length ≤ 4096) :
    Calls Try.prog 11 #[gv] w fun e w' => ∃ v' vs' Ps, e = .returned v' ∧ PO14 w w' G v' vs' Ps := by
  have HG := hid hG
  have HNs := hid (newSearch_any hG (by omega))
  obtain ⟨ao, cap, rfl, _, hm, _⟩ := Row.flat hG
  clear hG
  go_enter Try.func11, Try.ntmps11
  go_wp2_with fail
  refine HNs.out.mono ?_
  rintro e w1 ⟨b, va, v7, v10, rfl, h1⟩
  have HW := hid (walk_any14 h1 HG.out hn)
  clear h1 HNs
  go_wp2_with fail
  refine HW.out.mono ?_
  rintro e w2 ⟨rfl, F, s, opv, pav, psv, vs, h2, hI, hp, hmt⟩
  obtain ⟨h3, h4, h5, h6, h7, h8, h9⟩ := h2.parts hI
  have HSo := hid (sort14_any (v := psv) (L := vs.zip s.ps) (by rw [h3, h5]; exact h2.row) h6 h7 h8 h9 (by rw [h5]; have := hI.psLen; omega))
  have x6 := h2.cells.2.2.2.2.2.2
  have H2 := hid h2
  have HI := hid hI
  have HP := hid hp
  have HMt := hid hmt
  have hps : ∃ p n c, psv = .slice p n c := by
    rcases h2.row.2 with ⟨rfl, _⟩ | ⟨g, cap, cur, rfl, _⟩
    · exact ⟨_, _, _, rfl⟩
    · exact ⟨_, _, _, rfl⟩
  obtain ⟨p9, n9, c9, rfl⟩ := hps
  clear h2 hI hp hmt h3 h4 h5 h6 h7 h8 h9 HW
  go_wp2_with fail
  refine HSo.out.mono ?_
  rintro e w3 ⟨rfl, hg, M, hM, hr, ho⟩
  have HPo := hid (po_mk H2.out HI.out HP.out HMt.out hg hM hr ho)
  have hblk : w3.heap[b]? = w2.heap[b]? := hg.block b (Array.getElem?_eq_some_iff.1 H2.out.blk).1 (fun e => own_ne H2.out.row H2.out.blk ty_search.2 e.symm)
  have x6' : w3.cell? ⟨b, 6, none⟩ = some (.slice p9 n9 c9) := cell_of_row w3 b 6 _ _ _ (hblk.trans H2.out.blk)
  clear hg hM hr ho HSo x6 hblk H2 HI HP HMt
  go_wp2
  go_ret
  exact ⟨_, _, _, rfl, HPo.out⟩

end Go.Proofs.Ytmokokhhheonoaa

/- What is above what, plainly: the least relation that holds the pairs and goes on; tables of bits. -/
namespace Go.Proofs.Ytmokokhhheonoaa

def TrP (R : Nat → Nat → Prop) : Prop := ∀ i j k, R i j → R j k → R i k

/-! Tables of bits: 256 words, two a row. -/

end Go.Proofs.Ytmokokhhheonoaa

/- By way of each symbol in turn, plainly. -/
namespace Go.Proofs.Ytmokokhhheonoaa

/-- What has been told as far as the place (i, j), by way of k. -/
def stp (W : Nat → Nat → Bool) (k i j : Nat) : Nat → Nat → Bool := fun a b => W a b || (decide (a < i ∨ (a = i ∧ b < j)) && W a k && W k b)

/-- As far as the symbol k: whatever goes by way of a lesser one is told. -/
structure War (B : Nat → Nat → Prop) (n k : Nat) (U : Nat → Nat → Bool) : Prop where
  base : ∀ i j, B i j → i < n ∧ j < n ∧ U i j = true
  least : ∀ S : Nat → Nat → Prop, (∀ i j, B i j → S i j) → TrP S → ∀ i j, i < n → j < n → U i j = true → S i j
  tr : ∀ i m j, i < n → m < k → j < n → U i m = true → U m j = true → U i j = true

theorem War.next {B : Nat → Nat → Prop} {n k : Nat} {W : Nat → Nat → Bool} (h : War B n k W) (hk : k < n) : War B n (k + 1) (stp W k n 0) := by
  have e : ∀ a b, a < n → (stp W k n 0 a b = true ↔ W a b = true ∨ (W a k = true ∧ W k b = true)) := fun a b ha => by
    unfold stp
    simp [ha]
  refine ⟨fun i j hb => ?_, fun S hb hS i j hi hj hv => ?_, fun i m j hi hm hj h1 h2 => ?_⟩
  · obtain ⟨h1, h2, h3⟩ := h.base i j hb
    exact ⟨h1, h2, (e i j h1).2 (.inl h3)⟩
  · rcases (e i j hi).1 hv with hv | ⟨h1, h2⟩
    · exact h.least S hb hS i j hi hj hv
    · exact hS _ _ _ (h.least S hb hS i k hi hk h1) (h.least S hb hS k j hk hj h2)
  · rw [e _ _ hi] at h1 ⊢
    rw [e _ _ (by omega)] at h2
    by_cases hmk : m = k
    · subst hmk
      have h3 : W i m = true := by rcases h1 with h1 | h1; exact h1; exact h1.1
      have h4 : W m j = true := by rcases h2 with h2 | h2; exact h2; exact h2.2
      exact .inr ⟨h3, h4⟩
    · have hm2 : m < k := by omega
      rcases h1 with h1 | ⟨h1, h1'⟩ <;> rcases h2 with h2 | ⟨h2, h2'⟩
      · exact .inl (h.tr i m j hi hm2 hj h1 h2)
      · exact .inr ⟨h.tr i m k hi hm2 hk h1 h2, h2'⟩
      · exact .inr ⟨h1, h.tr k m j hk hm2 hj h1' h2⟩
      · exact .inr ⟨h1, h2'⟩

end Go.Proofs.Ytmokokhhheonoaa

/- The parts of a graph by way of each node in turn, plainly. -/
namespace Go.Proofs.Ytmokokhhheonoaa

def edgB (G : List (List Int)) (i k : Nat) : Bool := decide (i < G.length) && decide (k < G.length) && decide ((k : Int) ∈ G.getD i [])

theorem edgB_iff (G : List (List Int)) (i k : Nat) : edgB G i k = true ↔ Ed G i k := by
  unfold edgB Ed
  simp only [Bool.and_eq_true, decide_eq_true_eq, List.getD_eq_getElem?_getD]
  constructor
  · rintro ⟨⟨h1, h2⟩, h3⟩
    rw [List.getElem?_eq_getElem h1] at h3
    exact ⟨_, List.getElem?_eq_getElem h1, h3, h2⟩
  · rintro ⟨es, h1, h2, h3⟩
    have := (List.getElem?_eq_some_iff.1 h1).1
    rw [h1]
    exact ⟨⟨this, h3⟩, h2⟩

/-- Which ways there are, by way of the nodes below k. -/
def wayK (G : List (List Int)) : Nat → Nat → Nat → Bool
  | 0 => edgB G
  | k + 1 => stp (wayK G k) k G.length 0

def wayB (G : List (List Int)) : Nat → Nat → Bool := wayK G G.length

theorem way_war (G : List (List Int)) : ∀ k, k ≤ G.length → War (Ed G) G.length k (wayK G k)
  | 0, _ => ⟨fun i j h => ⟨h.lt.1, h.lt.2, (edgB_iff G i j).2 h⟩, fun S hb _ i j _ _ hu => hb i j ((edgB_iff G i j).1 hu), fun _ _ _ _ hm => by omega⟩
  | k + 1, h => (way_war G k (by omega)).next (by omega)

theorem wayB_iff (G : List (List Int)) {i k : Nat} (hi : i < G.length) (hk : k < G.length) : wayB G i k = true ↔ Wy (Ed G) i k := by
  have h := way_war G G.length (Nat.le_refl _)
  constructor
  · exact fun hu => h.least (Wy (Ed G)) (fun i j e => .one e) (fun a b c h1 h2 => h1.trans h2) i k hi hk hu
  · intro hw
    have : ∀ {i k : Nat}, Wy (Ed G) i k → wayB G i k = true := fun {i k} hw => by
      induction hw with
      | one e => exact (h.base _ _ e).2.2
      | more e hw ih => exact h.tr _ _ _ e.lt.1 e.lt.2 (wy_lt hw).2 (h.base _ _ e).2.2 ih
    exact this hw

/-- All nodes that go round with i. -/
def partB (G : List (List Int)) (i : Nat) : List Nat := (List.range G.length).filter fun k => wayB G i k && wayB G k i

/-- The parts as far as the node n. -/
def partsB (G : List (List Int)) (n : Nat) : List (List Nat) := (List.range n).filterMap fun i => if (partB G i).head? = some i then some (partB G i) else none

theorem partB_mem {G : List (List Int)} {i : Nat} (hi : i < G.length) (k : Nat) : k ∈ partB G i ↔ Wy (Ed G) i k ∧ Wy (Ed G) k i := by
  unfold partB
  rw [List.mem_filter, List.mem_range, Bool.and_eq_true]
  constructor
  · rintro ⟨hk, h1, h2⟩
    exact ⟨(wayB_iff G hi hk).1 h1, (wayB_iff G hk hi).1 h2⟩
  · rintro ⟨h1, h2⟩
    have hk := (wy_lt h1).2
    exact ⟨hk, (wayB_iff G hi hk).2 h1, (wayB_iff G hk hi).2 h2⟩

theorem partB_rise (G : List (List Int)) (i : Nat) : (partB G i).Pairwise (· < ·) := List.Pairwise.filter _ List.pairwise_lt_range

theorem partsB_is (G : List (List Int)) : IsParts (Ed G) (partsB G G.length) := by
  have mem : ∀ P, P ∈ partsB G G.length ↔ ∃ i, i < G.length ∧ (partB G i).head? = some i ∧ P = partB G i := fun P => by
    unfold partsB
    rw [List.mem_filterMap]
    constructor
    · rintro ⟨i, hi, h⟩
      split at h
      · rename_i hh
        exact ⟨i, List.mem_range.1 hi, hh, (Option.some.inj h).symm⟩
      · cases h
    · rintro ⟨i, hi, hh, rfl⟩
      exact ⟨i, List.mem_range.2 hi, by rw [if_pos hh]⟩
  refine ⟨fun P hP => ?_, fun i hi => ?_, ?_⟩
  · obtain ⟨i, hi, hh, rfl⟩ := (mem P).1 hP
    have hm := (partB_mem hi i).1 (List.mem_of_mem_head? hh)
    exact ⟨i, hm.1, partB_mem hi, partB_rise G i⟩
  · have hn := (wy_lt hi).1
    have hne : partB G i ≠ [] := List.ne_nil_of_mem ((partB_mem hn i).2 ⟨hi, hi⟩)
    obtain ⟨m, r, hmr⟩ := List.exists_cons_of_ne_nil hne
    have hm := (partB_mem hn m).1 (by rw [hmr]; simp)
    have hml := (wy_lt hm.1).2
    have e : partB G m = partB G i := rise_ext (partB_rise G m) (partB_rise G i) fun x => by
      rw [partB_mem hml, partB_mem hn]
      exact part_same (hm.2.trans hm.1) (hm.2.trans hm.1) hm.1 hm.2 x
    exact ⟨partB G i, (mem _).2 ⟨m, hml, by rw [e, hmr]; rfl, e.symm⟩, (partB_mem hn i).2 ⟨hi, hi⟩⟩
  · unfold partsB
    rw [List.pairwise_filterMap]
    refine List.Pairwise.imp (fun {a b} hab P hP Q hQ p q hp hq => ?_) List.pairwise_lt_range
    split at hP
    · rename_i h1
      split at hQ
      · rename_i h2
        cases hP
        cases hQ
        rw [h1] at hp
        rw [h2] at hq
        cases hp
        cases hq
        exact hab
      · cases hQ
    · cases hP

/-- What Parts answers, for every graph. -/
def partsG (G : List (List Int)) : List (List Nat) := partsB G G.length

theorem IsParts.eq {G : List (List Int)} {Ps : List (List Nat)} (h : IsParts (Ed G) Ps) : Ps = partsG G := h.one (partsB_is G)

theorem ex14_1 : partsG [[1], [2], [0, 3], [3], [0]] = [[0, 1, 2], [3]] := by decide +kernel

theorem ex14_2 : partsG [[3, -1, 9], [2], [1], [0]] = [[0, 3], [1, 2]] := by decide +kernel

theorem ex14_3 : partsG [[1], [2], []] = [] := by decide +kernel

theorem ex14_4 : partsG [[0]] = [[0]] := by decide +kernel

end Go.Proofs.Ytmokokhhheonoaa
