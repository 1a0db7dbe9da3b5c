/- Texts of the proof, one behind the other. -/
import Derived.Test.YtdjmjhlbjcgoiaaGreatDoorOwn4
import Derived.Test.YtdjmjhlbjcgoiaaGreatDoorOwn12
import Derived.Test.YtdjmjhlbjcgoiaaGreatDoorOwn3
import Derived.Shelf.Strings.Prefix
import Derived.Test.YtdjmjhlbjcgoiaaGreatDoorOwn16
import Derived.Test.YtdjmjhlbjcgoiaaGreatDoorOwn5
import Derived.Test.YtdjmjhlbjcgoiaaGreatDoorOwn1
import Derived.Sort.QuietTacIn
import Derived.Sort.CutIn
import Derived.Test.YtdjmjhlbjcgoiaaGreatDoorOwn17
import Derived.Ground.NamesProg
import Derived.Shelf.Lay
import Derived.Shelf.Sort.Plain
import Derived.Shelf.Slices.In.SortNone
import Derived.Sort.OwnSortedInts
import Derived.Ground.Names2Prog
import Derived.Shelf.Slices.CompactI
import Derived.Test.YtdjmjhlbjcgoiaaGreatDoorOwn18
import Derived.Test.YtdjmjhlbjcgoiaaGreatDoorOwn15
import Derived.Deep.Slices
/- The document's Check and Strict of layer 12. -/
namespace Go.Proofs.YtdjmjhlbjcgoiaaGreatDoor
open Go.RowKit Go.Maps Go.BigFrame

theorem docIn_all {sig : List Sy} (ha : ArOk sig) (l : List Ip) : docIn sig [] l = inGo sig (fun _ => false) l := by
  rw [docIn_in ha List.nodup_nil (fun x hx => by cases hx)]
  congr 1

set_option maxRecDepth 100000 in
set_option maxHeartbeats 6400000 in
theorem refCheck12_any (sv lv : Value) (sig : List Sy) (l : List Ip) (w : World) (hs : Sg w sv sig) (hl : Ins w lv l) :
    Calls Tryz.prog 12 #[sv, lv] w fun e w' => e = .returned (.int .i64 (inE sig l)) ∧ Below w.heap.size w w' := by
  have HCs := hid (refCheckSig_any sv sig w hs)
  obtain ⟨so, sc, rfl, hso, hsc, _⟩ := Row.flat hs
  obtain ⟨lo, lc, rfl, hlo, hlc, _⟩ := Row.flat hl
  unfold maxLen at hsc hlc
  have HS := hid hs
  have HL := hid hl
  clear hs hl
  go_enter Tryz.func12, Tryz.ntmps12
  go_wp2_with fail
  refine HCs.out.mono ?_
  rintro e w1 ⟨rfl, hb1⟩
  have B1 := hid hb1
  clear hb1 HCs
  by_cases hE : sigE sig = 0
  · have hAr := sigE_ok hE
    have HE : Hid (inE sig l = docIn sig [] l) := by show _ = _; unfold inE; rw [if_pos hE, docIn_all hAr]
    have HAr := hid hAr
    rw [hE]
    clear hE hAr
    go_wp2
    go_loopw [6] (fun x wr => ∃ k : Nat, k ≤ l.length ∧ x = .int .i64 k ∧ docIn sig [] l = docIn sig ((l.take k).map (·.1)).reverse (l.drop k) ∧ Below w.heap.size w wr) (fun x _ => l.length - (intOf x).toNat)
    case atStart => exact ⟨0, Nat.zero_le _, rfl, rfl, B1.out⟩
    case round =>
      clear B1
      obtain ⟨k, hk, rfl, hgo, hbl⟩ := hrel
      have HO := hid hgo
      have BL := hid hbl
      clear hgo hbl
      by_cases hlt : k < l.length
      · obtain ⟨g, off, c, p, a1, c1, rfl, hm, hc0w, hc1w, hp, hcl, hcu, hp1, hp2⟩ := HL.out.at hlt
        have HD := hid (HO.out.trans (by rw [drop_get hm, docIn]))
        have HM := hid hm
        have HP := hid hp
        have x0 := (Kp.of_below BL.out).cell _ _ hc0w
        have x1 := (Kp.of_below BL.out).cell _ _ hc1w
        clear HO hm hp hc0w hc1w
        by_cases hneg : c < 0
        · have hd : decide (c < 0) = true := decide_eq_true hneg
          have HR : Hid (inE sig l = 120) := by show _ = _; rw [HE.out, HD.out, if_pos (Or.inl hneg)]
          clear HD x1
          go_wp2
          go_ret
          exact ⟨ret1i HR.out.symm, BL.out⟩
        by_cases hbig : (sig.length : Int) ≤ c
        · have hd : decide (c < 0) = false := decide_eq_false hneg
          have hd2 : decide ((sig.length : Int) ≤ c) = true := decide_eq_true hbig
          have HR : Hid (inE sig l = 120) := by show _ = _; rw [HE.out, HD.out, if_pos (Or.inr hbig)]
          clear HD x1
          go_wp2
          go_ret
          exact ⟨ret1i HR.out.symm, BL.out⟩
        obtain ⟨ci, rfl⟩ := Int.eq_ofNat_of_zero_le (Int.not_lt.1 hneg)
        have hci : ci < sig.length := by omega
        have HD2 := hid (HD.out.trans (by rw [if_neg (by rintro (h | h); exact hneg h; exact hbig h)]))
        have hd : decide ((ci : Int) < 0) = false := decide_eq_false hneg
        have hd2 : decide (sig.length ≤ ci) = false := decide_eq_false (by omega)
        clear HD hneg hbig
        have X0 := hid x0
        have X1 := hid x1
        clear x1
        go_wp2
        clear x0 hd hd2
        go_loopw [7] (fun x wy => ∃ j : Nat, j ≤ k ∧ x = .int .i64 j ∧ (∀ (m : Nat) y, m < j → l[m]? = some y → ¬ y.1 = (ci : Int)) ∧ ∃ n, wy = wr.drewN n) (fun x _ => k - (intOf x).toNat)
        case atStart => exact ⟨0, Nat.zero_le _, rfl, fun m y h => absurd h (by omega), 0, rfl⟩
        case round =>
          obtain ⟨j, hj, rfl, hjs, n, hwy⟩ := hrel
          have HJ := hid hjs
          clear hjs
          subst hwy
          by_cases hjk : j < k
          · obtain ⟨g', off', d, p', a1', c1', hgg, hm', hd0, _, _, hdl, hdu, _, _⟩ := HL.out.at (Nat.lt_trans hjk hlt)
            cases hgg
            have z0 := (Kp.of_below BL.out).cell _ _ hd0
            have x0 := X0.out
            have HM' := hid hm'
            clear hm' hd0
            by_cases hdc : d = (ci : Int)
            · have HR : Hid (inE sig l = 120) := by
                show _ = _
                rw [HE.out, HD2.out, if_pos (List.mem_reverse.2 (List.mem_map.2 ⟨(d, p'), List.mem_of_getElem? (by rw [List.getElem?_take_of_lt hjk]; exact HM'.out), hdc⟩))]
              subst hdc
              go_wp2
              go_quiet (fail)
              go_wp2
              go_ret
              exact ⟨ret1i HR.out.symm, below_step BL.out (below_step (drawn_below rfl) (drawn_below rfl))⟩
            · have hne : (d == (ci : Int)) = false := by simpa using hdc
              have HJn : Hid (∀ (m : Nat) y, m < j + 1 → l[m]? = some y → ¬ y.1 = (ci : Int)) := fun m y hm hy => by
                rcases Nat.lt_succ_iff_lt_or_eq.1 hm with h | h
                · exact HJ.out m y h hy
                · subst h
                  rw [HM'.out] at hy
                  cases hy
                  exact hdc
              go_wp2
              go_quiet (fail)
              go_wp2
              go_roundw
              case rel => exact ⟨j + 1, hjk, by go_num, HJn.out, _, rfl⟩
              case measure => simp [intOf] <;> omega
          · obtain rfl : j = k := by omega
            have HNm : Hid (¬ (ci : Int) ∈ ((l.take j).map (·.1)).reverse) := fun hm => by
              obtain ⟨y, hy, e⟩ := List.mem_map.1 (List.mem_reverse.1 hm)
              obtain ⟨m, hm2⟩ := List.mem_iff_getElem?.1 hy
              have hmj : m < j := by
                have := (List.getElem?_eq_some_iff.1 hm2).1
                rw [List.length_take] at this
                omega
              rw [List.getElem?_take_of_lt hmj] at hm2
              exact HJ.out m y hmj hm2 e
            obtain ⟨gs, os, sn, ar, rfl, hsm, _, hsa, hal, hau, _⟩ := HS.out.at hci
            have HArI : Hid (arI sig (ci : Int) = ar) := by show _ = _; unfold arI; rw [Int.toNat_natCast, hsm]
            have HD3 : Hid (docIn sig [] l = if checkE p ar = 2 then 2 else if checkE p ar ≠ 0 then 121 else docIn sig ((l.take (j + 1)).map (·.1)).reverse (l.drop (j + 1))) := by
              show _ = _
              rw [HD2.out, if_neg HNm.out, HArI.out, take_get HM.out]
              simp only [List.map_append, List.map_cons, List.map_nil, List.reverse_append, List.reverse_cons, List.reverse_nil, List.nil_append, List.cons_append]
            obtain ⟨W, hW⟩ : ∃ X, X = wr.drewN n := ⟨_, rfl⟩
            have KW : Hid (Below wr.heap.size wr W) := hid (drawn_below hW)
            have BW := hid (below_step BL.out KW.out)
            have x0 := (Kp.of_below KW.out).cell _ _ X0.out
            have x1 := (Kp.of_below KW.out).cell _ _ X1.out
            have x2 := (Kp.of_below BW.out).cell _ _ hsa
            clear HD2 HNm HJ hsm hsa HArI X0 X1
            rw [← hW]
            clear hW KW
            go_upto_region 14 with fail
            have hS : Kp W W.drew := Kp.of_below (drawn_belowI W)
            refine wp_region_held_drew (S := fun w' => Kp W w') (by kernel_rfl) hS (fun _ => ?_)
            obtain ⟨W0, hW0⟩ : ∃ X, X = W.drew := ⟨_, rfl⟩
            have bW0 : Below W.heap.size W W0 := by rw [hW0]; exact drawn_belowI W
            rw [← hW0] at hS ⊢
            clear hW0
            refine wpAnyH_take (i := 0) (v := .slice (some ⟨g, off, none⟩) l.length lc) rfl (by kernel_rfl) (by kernel_rfl) (by kernel_rfl) (fun _ _ _ h => h) (Or.inl ⟨by rfl, fun w' h => by go_simp⟩) hS ?_
            try simp only [Act.put, List.setIfInBounds_toArray]
            refine wpAnyH_take (i := 1) (v := .int .i64 (j : Int)) rfl (by kernel_rfl) (by kernel_rfl) (by kernel_rfl) (fun _ _ _ h => h) (Or.inl ⟨by rfl, fun w' h => by go_simp⟩) hS ?_
            try simp only [Act.put]
            refine wpAnyH_take (i := 2) (v := .pointer (some ⟨g, off + j * 2, none⟩)) rfl (by kernel_rfl) (by kernel_rfl) (by kernel_rfl) (fun _ _ _ h => h) (Or.inl ⟨by rfl, fun w' h => by go_simp⟩) hS ?_
            try simp only [Act.put]
            refine wpAnyH_take (i := 3) (v := .pointer (some ⟨g, off + j * 2 + 1, none⟩)) rfl (by kernel_rfl) (by kernel_rfl) (by kernel_rfl) (fun _ _ _ h => h) (Or.inl ⟨by rfl, fun w' h => by go_simp⟩) hS ?_
            try simp only [Act.put]
            refine wpAnyH_take (i := 4) (v := .slice a1 p.length c1) rfl (by kernel_rfl) (by kernel_rfl) (by kernel_rfl) (fun _ _ _ h => h) (Or.inl ⟨by rfl, fun w' h => by have hh := h.cell _ _ x1; go_simp⟩) hS ?_
            try simp only [Act.put]
            refine wpAnyH_take (i := 5) (v := .slice (some ⟨gs, os, none⟩) sig.length sc) rfl (by kernel_rfl) (by kernel_rfl) (by kernel_rfl) (fun _ _ _ h => h) (Or.inl ⟨by rfl, fun w' h => by go_simp⟩) hS ?_
            try simp only [Act.put]
            refine wpAnyH_take (i := 6) (v := .slice (some ⟨g, off, none⟩) l.length lc) rfl (by kernel_rfl) (by kernel_rfl) (by kernel_rfl) (fun _ _ _ h => h) (Or.inl ⟨by rfl, fun w' h => by go_simp⟩) hS ?_
            try simp only [Act.put]
            refine wpAnyH_take (i := 7) (v := .int .i64 (j : Int)) rfl (by kernel_rfl) (by kernel_rfl) (by kernel_rfl) (fun _ _ _ h => h) (Or.inl ⟨by rfl, fun w' h => by go_simp⟩) hS ?_
            try simp only [Act.put]
            refine wpAnyH_take (i := 8) (v := .pointer (some ⟨g, off + j * 2, none⟩)) rfl (by kernel_rfl) (by kernel_rfl) (by kernel_rfl) (fun _ _ _ h => h) (Or.inl ⟨by rfl, fun w' h => by go_simp⟩) hS ?_
            try simp only [Act.put]
            refine wpAnyH_take (i := 9) (v := .pointer (some ⟨g, off + j * 2, none⟩)) rfl (by kernel_rfl) (by kernel_rfl) (by kernel_rfl) (fun _ _ _ h => h) (Or.inl ⟨by rfl, fun w' h => by go_simp⟩) hS ?_
            try simp only [Act.put]
            refine wpAnyH_take (i := 10) (v := .int .i64 (ci : Int)) rfl (by kernel_rfl) (by kernel_rfl) (by kernel_rfl) (fun _ _ _ h => h) (Or.inl ⟨by rfl, fun w' h => by have hh := h.cell _ _ x0; go_simp⟩) hS ?_
            try simp only [Act.put]
            refine wpAnyH_take (i := 11) (v := .pointer (some ⟨gs, os + ci * 2, none⟩)) rfl (by kernel_rfl) (by kernel_rfl) (by kernel_rfl) (fun _ _ _ h => h) (Or.inl ⟨by rfl, fun w' h => by go_simp⟩) hS ?_
            try simp only [Act.put]
            refine wpAnyH_take (i := 12) (v := .pointer (some ⟨gs, os + ci * 2 + 1, none⟩)) rfl (by kernel_rfl) (by kernel_rfl) (by kernel_rfl) (fun _ _ _ h => h) (Or.inl ⟨by rfl, fun w' h => by go_simp⟩) hS ?_
            try simp only [Act.put]
            refine wpAnyH_take (i := 13) (v := .int .i64 ar) rfl (by kernel_rfl) (by kernel_rfl) (by kernel_rfl) (fun _ _ _ h => h) (Or.inl ⟨by rfl, fun w' h => by have hh := h.cell _ _ x2; go_simp⟩) hS ?_
            try simp only [Act.put]
            refine wpAnyH_ready (rs := [14]) (by kernel_rfl) (by simp) (AllReadyH.cons rfl (fun K hK => ?_) (AllReadyH.nil))
            go_simp
            refine (refCheck_anyY _ p ar W0 (HP.out.kp ((Kp.of_below BW.out).trans hS)) hal hau).mono ?_
            rintro e w4 ⟨rfl, hb4⟩
            have B4 := hid (below_step BW.out (below_step bW0 hb4))
            have hS4 := hS.trans (Kp.of_below hb4)
            refine hK.out _ _ hS4 (fun _ => ?_)
            clear hK K hS hb4 bW0 x0 x1 x2
            have hS := hS4
            clear hS4
            try simp only [Act.put, List.setIfInBounds_toArray]
            rw [checkR_eq]
            generalize hz : checkE p ar = z at HD3 ⊢
            clear hz
            refine wpAnyH_take (i := 15) (v := .int .i64 z) rfl (by kernel_rfl) (by kernel_rfl) (by kernel_rfl) (fun _ _ _ h => h) (Or.inl ⟨by rfl, fun w' h => by go_simp⟩) hS ?_
            refine wpAnyH_done (by kernel_rfl) ?_ _
            try simp only [Act.put, List.getElem_toArray, List.getElem_cons_succ, List.getElem_cons_zero, List.setIfInBounds_toArray, List.set_cons_succ, List.set_cons_zero]
            clear hS
            by_cases h2 : z = 2
            · subst h2
              have HR : Hid (inE sig l = 2) := by show _ = _; rw [HE.out, HD3.out, if_pos rfl]
              go_wp2
              go_ret
              exact ⟨ret1i HR.out.symm, B4.out⟩
            have hn2 : (z == 2) = false := by simpa using h2
            have hd2 : decide (z = 2) = false := decide_eq_false h2
            by_cases h0 : z = 0
            · subst h0
              have HN : Hid (docIn sig [] l = docIn sig ((l.take (j + 1)).map (·.1)).reverse (l.drop (j + 1))) := by show _ = _; rw [HD3.out, if_neg (by decide), if_neg (by decide)]
              clear h2 HD3
              go_wp2
              go_roundw
              case rel => exact ⟨j + 1, hlt, by go_num, HN.out, B4.out⟩
              case measure => simp [intOf] <;> omega
            · have hne0 : (z != 0) = true := by rw [bne_iff_ne]; exact h0
              have HR : Hid (inE sig l = 121) := by show _ = _; rw [HE.out, HD3.out, if_neg h2, if_pos h0]
              clear HD3
              go_wp2
              go_ret
              exact ⟨ret1i HR.out.symm, B4.out⟩
      · obtain rfl : k = l.length := by omega
        have HR : Hid (inE sig l = if l.length = sig.length then 0 else 120) := by
          show _ = _
          rw [HE.out, HO.out, List.drop_length, docIn, List.length_reverse, List.length_map, List.length_take, Nat.min_self]
        clear HO
        by_cases he : l.length = sig.length
        · have hne : ((l.length : Int) != (sig.length : Int)) = false := by simp; omega
          have HR2 : Hid (inE sig l = 0) := by show _ = _; rw [HR.out, if_pos he]
          clear he HR
          go_wp2
          go_ret
          exact ⟨ret1i HR2.out.symm, BL.out⟩
        · have hne : ((l.length : Int) != (sig.length : Int)) = true := by rw [bne_iff_ne]; omega
          have HR2 : Hid (inE sig l = 120) := by show _ = _; rw [HR.out, if_neg he]
          clear he HR
          go_wp2
          go_ret
          exact ⟨ret1i HR2.out.symm, BL.out⟩
  · have HE : Hid (inE sig l = sigE sig) := by show _ = _; unfold inE; rw [if_neg hE]
    have hne : (sigE sig != 0) = true := by rw [bne_iff_ne]; exact hE
    clear hE
    generalize hz : sigE sig = z at hne HE ⊢
    clear hz
    go_wp2
    go_ret
    exact ⟨ret1i HE.out.symm, B1.out⟩

end Go.Proofs.YtdjmjhlbjcgoiaaGreatDoor

/- checkRule, Check and isRight of package system walked. -/
namespace Go.Proofs.YtdjmjhlbjcgoiaaGreatDoor
open Go.RowKit Go.Maps Go.BigFrame

/-- A rule: its sides. -/
abbrev Rl := List Int × List Int

/-- A rule at an address. -/
def EU (w : World) (g o : Nat) (r : Rl) : Prop := r.1.length * 8 ≤ 140737488351232 ∧ r.2.length * 8 ≤ 140737488351232 ∧ ∃ v1 v2, w.cell? ⟨g, o, none⟩ = some v1 ∧ w.cell? ⟨g, o + 1, none⟩ = some v2 ∧ Is w v1 r.1 ∧ Is w v2 r.2

theorem EU.kp {w w' : World} (hk : Kp w w') (g o : Nat) (r : Rl) (h : EU w g o r) : EU w' g o r := by
  obtain ⟨h1, h2, v1, v2, h3, h4, h5, h6⟩ := h
  exact ⟨h1, h2, v1, v2, hk.cell _ _ h3, hk.cell _ _ h4, h5.kp hk, h6.kp hk⟩

/-- A row of rules. -/
def RU (w : World) (v : Value) (rs : List Rl) : Prop := Row EU 2 w v rs

theorem RU.kp {w w' : World} {v : Value} {rs : List Rl} (h : RU w v rs) (hk : Kp w w') : RU w' v rs := Row.imp h hk.size (EU.kp hk)

theorem RU.at {w : World} {ao : Option Addr} {n cap : Nat} {rs : List Rl} (h : RU w (.slice ao n cap) rs) {k : Nat} (hk : k < rs.length) :
    ∃ g off l r a1 c1 a2 c2, ao = some ⟨g, off, none⟩ ∧ rs[k]? = some (l, r) ∧ w.cell? ⟨g, off + k * 2, none⟩ = some (.slice a1 l.length c1) ∧ w.cell? ⟨g, off + k * 2 + 1, none⟩ = some (.slice a2 r.length c2) ∧
      Is w (.slice a1 l.length c1) l ∧ Is w (.slice a2 r.length c2) r ∧ l.length * 8 ≤ 140737488351232 ∧ r.length * 8 ≤ 140737488351232 := by
  obtain ⟨ao', cap', hv, _, _, hx⟩ := Row.flat h
  simp only [Value.slice.injEq] at hv
  obtain ⟨rfl, rfl, rfl⟩ := hv
  obtain ⟨g, off, ⟨l, r⟩, rfl, hm, h1, h2, v1, v2, h3, h4, h5, h6⟩ := hx k hk
  obtain ⟨a1, c1, rfl, _⟩ := Row.flat h5
  obtain ⟨a2, c2, rfl, _⟩ := Row.flat h6
  exact ⟨g, off, l, r, a1, c1, a2, c2, rfl, hm, h3, h4, h5, h6, h1, h2⟩

end Go.Proofs.YtdjmjhlbjcgoiaaGreatDoor

/- The examples of layer 8: the system, and what comes out, plainly. -/
namespace Go.Proofs.YtdjmjhlbjcgoiaaGreatDoor
open Go.RowKit Go.Maps Go.BigFrame

def sumR0 : Rl := ([2, 0, -1], [-1])
def sumR1 : Rl := ([2, 1, -1, -2], [1, 2, -1, -2])

theorem heap_newg8 {w : World} {o : Obj} {g : Nat} (h : g = w.heap.size) : (w.alloc o).heap[g]? = some o := by
  subst h
  exact heap_alloc_new _ _

/-- Two rules in a block. -/
theorem ru_lit8 {W : World} {g : Nat} {a0 a1 a2 a3 : Option Addr} {n0 n1 n2 n3 c0 c1 c2 c3 : Nat} {p q r s : List Int} (h0 : W.cell? ⟨g, 0, none⟩ = some (.slice a0 n0 c0)) (h1 : W.cell? ⟨g, 1, none⟩ = some (.slice a1 n1 c1)) (h2 : W.cell? ⟨g, 2, none⟩ = some (.slice a2 n2 c2)) (h3 : W.cell? ⟨g, 3, none⟩ = some (.slice a3 n3 c3))
    (i0 : Is W (.slice a0 n0 c0) p) (i1 : Is W (.slice a1 n1 c1) q) (i2 : Is W (.slice a2 n2 c2) r) (i3 : Is W (.slice a3 n3 c3) s) (l0 : p.length ≤ 99) (l1 : q.length ≤ 99) (l2 : r.length ≤ 99) (l3 : s.length ≤ 99) : RU W (.slice (some ⟨g, 0, none⟩) 2 2) [(p, q), (r, s)] := by
  refine ⟨some ⟨g, 0, none⟩, 2, rfl, Nat.le_refl _, by unfold maxLen; omega, fun _ => ⟨g, 0, rfl, World.block_lt_of_cell? _ _ h0, fun k x hk => ?_⟩⟩
  match k, hk with
  | 0, hk =>
    cases hk
    exact ⟨by simp only; omega, by simp only; omega, _, _, h0, h1, i0, i1⟩
  | 1, hk =>
    cases hk
    exact ⟨by simp only; omega, by simp only; omega, _, _, h2, h3, i2, i3⟩
  | k + 2, hk => simp at hk

theorem results_one8 {P : Program} {fn : Func} {w : World} {tmps : Array Value} {t : Tmp} {ty : TypeId} {ad : Addr} {v : Value} (h : fn.results = #[.cell t ty]) (ht : tmps.getD t undef = .pointer (some ad)) (hl : (loadVar ty ad).run P w = .ok v w) : (results fn tmps).run P w = .ok v w := by
  have ht2 : tmps[t]?.getD undef = .pointer (some ad) := by simpa using ht
  simp [results, h, ht2, hl, asAddr]

end Go.Proofs.YtdjmjhlbjcgoiaaGreatDoor

/- Rows of interpretations of one's own; the document's example of layer 12. -/
namespace Go.Proofs.YtdjmjhlbjcgoiaaGreatDoor
open Go.RowKit Go.Maps Go.BigFrame

/-- Interpretations' cells. -/
def flatN (cs : List (Int × Value)) : List Value := cs.flatMap fun c => [.int .i64 c.1, c.2]

/-- A row of interpretations of one's own. -/
def OwN (w : World) (base : Nat) (v : Value) (cs : List (Int × Value)) : Prop := w.ownsRow base 51 2 v cs.length (flatN cs)

theorem flatN_get {cs : List (Int × Value)} : ∀ {i : Nat} {c : Int × Value}, cs[i]? = some c → (flatN cs)[i * 2]? = some (.int .i64 c.1) ∧ (flatN cs)[i * 2 + 1]? = some c.2 := by
  intro i c h
  have hm : ((cs.map fun c => (Value.int .i64 c.1, c.2)) : List (Value × Value))[i]? = some (.int .i64 c.1, c.2) := by rw [List.getElem?_map, h]; rfl
  have h2 := flat2_get hm
  have e : (cs.map fun c => ((Value.int .i64 c.1, c.2) : Value × Value)).flatMap (fun c => [c.1, c.2]) = flatN cs := by
    unfold flatN
    rw [List.flatMap_map]
  rw [e] at h2
  exact h2

/-- What is said of the elements. -/
def Els (w : World) (cs : List (Int × Value)) (l : List Ip) : Prop := cs.length = l.length ∧ ∀ (i : Nat) c x, cs[i]? = some c → l[i]? = some x → c.1 = x.1 ∧ -9223372036854775808 ≤ x.1 ∧ x.1 ≤ 9223372036854775807 ∧ Ms w c.2 x.2

theorem OwN.ins {w : World} {base : Nat} {v : Value} {cs : List (Int × Value)} {l : List Ip} (h : OwN w base v cs) (he : Els w cs l) : Ins w v l := by
  have hl := he.1
  rcases h.2 with ⟨rfl, hn⟩ | ⟨g, cap, cur, rfl, hb, hg, hcap, hm, hs, ht⟩
  · exact ⟨none, 0, by rw [← hl, hn], by omega, by simp [maxLen], by omega⟩
  · rw [hl]
    refine ⟨_, cap, rfl, by omega, hm, fun _ => ⟨g, 0, rfl, (Array.getElem?_eq_some_iff.1 hg).1, ?_⟩⟩
    intro k x hk
    have hlt : k < l.length := (List.getElem?_eq_some_iff.1 hk).1
    have hck : cs[k]? = some cs[k] := List.getElem?_eq_getElem (by omega)
    obtain ⟨e1, e2, e3, e4⟩ := he.2 k _ x hck hk
    obtain ⟨h1, h2⟩ := flatN_get hck
    refine ⟨e2, e3, ?_, cs[k].2, ?_, e4⟩
    · rw [Nat.zero_add, World.ownsRow.cellAt h (k * 2) (by omega), h1, e1]
    · rw [Nat.zero_add, World.ownsRow.cellAt h (k * 2 + 1) (by omega), h2]

theorem OwN.later {w w' : World} {base : Nat} {v : Value} {cs : List (Int × Value)} (h : OwN w base v cs) (hb : Below w.heap.size w w') : OwN w' base v cs := ownsRow_later h hb

theorem OwN.slice {w : World} {base : Nat} {v : Value} {cs : List (Int × Value)} (h : OwN w base v cs) : ∃ ao cap, v = .slice ao cs.length cap ∧ cs.length ≤ cap ∧ cap ≤ maxLen := by
  rcases h.2 with ⟨rfl, hn⟩ | ⟨g, cap, cur, rfl, _, _, hc, hm, _⟩
  · exact ⟨_, 0, by rw [hn], by omega, by simp [maxLen]⟩
  · exact ⟨_, cap, rfl, hc, hm⟩

theorem info_interp : (Tryz.prog.info? 51).map (fun i => (i.zero, i.size, i.bytes)) = some (some (.agg #[.int .i64 0, .slice none 0 0]), 2, 32) := by kernel_rfl

theorem under_interps : Tryz.prog.underlying 23 = some (.slice 51) := by kernel_rfl

/-- One more behind. -/
theorem OwN.snoc (ty : TypeId) {w : World} {base : Nat} {v u : Value} {cs : List (Int × Value)} {x : Int} (h : OwN w base v cs) (hb : base ≤ w.heap.size) (hu : u.oneCell' = true) (hlen : (cs.length + 1) * 32 ≤ 140737488355328) :
    ∃ v' w', (Builtin.append_ #[23, 23] ty #[v, .slice (some ⟨w.heap.size, 0, none⟩) 1 1]).run Tryz.prog (w.alloc (.cells #[.int .i64 x, u] 51)) = .ok v' w' ∧ OwN w' base v' (cs ++ [(x, u)]) ∧ (w.alloc (.cells #[.int .i64 x, u] 51)).grownBy w' v.ownBlock := by
  obtain ⟨i1, hi1, hy0, hy1, hy2⟩ := info_parts info_interp
  obtain ⟨v', w', hr, h2, h3, _, _⟩ := run_append_own_at (P := Tryz.prog) (w.alloc (.cells #[.int .i64 x, u] 51)) base 23 ty 51 i1 _ 2 32 under_interps hi1 hy0 hy1 hy2 rfl (by decide) v cs.length (flatN cs) (ownsRow_later h (below_alloc _)) ⟨w.heap.size, 0, none⟩ 1 1 [.int .i64 x, u] rfl
    (fun j y hj => by
      rw [Addr.add_lit, Nat.zero_add, cell_of_row _ _ _ _ _ _ (heap_alloc_new _ _)]
      simpa using hj) (fun y hy => by
        simp only [List.mem_cons, List.not_mem_nil, or_false] at hy
        rcases hy with rfl | rfl
        · rfl
        · exact hu) (by unfold maxLen; omega) (by omega) (Nat.le_trans hb (below_alloc _).size)
  refine ⟨v', w', hr, ?_, h3⟩
  unfold OwN
  have e : flatN (cs ++ [(x, u)]) = flatN cs ++ [.int .i64 x, u] := by simp [flatN]
  rw [e, List.length_append]
  exact h2

/-- One more behind, wherever it was laid. -/
theorem OwN.snocAt (ty : TypeId) {w : World} {base g : Nat} {v u : Value} {cs : List (Int × Value)} {x : Int} (h : OwN w base v cs) (hz : w.cell? ⟨g, 0, none⟩ = some (.int .i64 x) ∧ w.cell? ⟨g, 1, none⟩ = some u) (hb : base ≤ w.heap.size) (hu : u.oneCell' = true) (hlen : (cs.length + 1) * 32 ≤ 140737488355328) :
    ∃ v' w', (Builtin.append_ #[23, 23] ty #[v, .slice (some ⟨g, 0, none⟩) 1 1]).run Tryz.prog w = .ok v' w' ∧ OwN w' base v' (cs ++ [(x, u)]) ∧ w.grownBy w' v.ownBlock := by
  obtain ⟨i1, hi1, hy0, hy1, hy2⟩ := info_parts info_interp
  obtain ⟨v', w', hr, h2, h3, _, _⟩ := run_append_own_at (P := Tryz.prog) w base 23 ty 51 i1 _ 2 32 under_interps hi1 hy0 hy1 hy2 rfl (by decide) v cs.length (flatN cs) h ⟨g, 0, none⟩ 1 1 [.int .i64 x, u] rfl
    (fun j y hj => by
      rw [Addr.add_lit, Nat.zero_add]
      match j, hj with
      | 0, hj => simp at hj; subst hj; exact hz.1
      | 1, hj => simp at hj; subst hj; exact hz.2
      | j + 2, hj => simp at hj) (fun y hy => by
        simp only [List.mem_cons, List.not_mem_nil, or_false] at hy
        rcases hy with rfl | rfl
        · rfl
        · exact hu) (by unfold maxLen; omega) (by omega) hb
  refine ⟨v', w', hr, ?_, h3⟩
  unfold OwN
  have e : flatN (cs ++ [(x, u)]) = flatN cs ++ [.int .i64 x, u] := by simp [flatN]
  rw [e, List.length_append]
  exact h2

theorem OwN.low {w : World} {base g n cap : Nat} {cs : List (Int × Value)} (h : OwN w base (.slice (some ⟨g, 0, none⟩) n cap) cs) : base < w.heap.size := by
  rcases h.2 with ⟨hv, _⟩ | ⟨g', _, _, hv, hb, hg, _⟩
  · cases hv
  · exact Nat.lt_of_le_of_lt hb (Array.getElem?_eq_some_iff.1 hg).1

theorem ow_new1 {w : World} {base : Nat} (hb : base ≤ w.heap.size) : Ow (w.alloc (.cells #[.int .u32 1] 38)) base (.slice (some ⟨w.heap.size, 0, none⟩) 1 1) [1] :=
  ⟨fun x hx => by simp at hx; omega, rfl, .inr ⟨w.heap.size, 1, _, rfl, hb, heap_alloc_new _ _, Nat.le_refl _, by unfold maxLen; omega, rfl, rfl⟩⟩

theorem owI_new1 {w : World} {base : Nat} (hb : base ≤ w.heap.size) : OwI (w.alloc (.cells #[.int .i64 1] 3)) base (.slice (some ⟨w.heap.size, 0, none⟩) 1 1) [1] :=
  ⟨fun _ x hx => by have := List.mem_of_getElem? hx; simp at this; omega, rfl, .inr ⟨w.heap.size, 1, _, rfl, hb, heap_alloc_new _ _, Nat.le_refl _, by unfold maxLen; omega, rfl, rfl⟩⟩

theorem om_new1 {w : World} {base : Nat} {cv ev : Value} {m : Mn} (hb : base ≤ w.heap.size) (h1 : Ow w base cv m.1) (h2 : OwI w base ev m.2) : OM (w.alloc (.cells #[cv, ev] 37)) base (.slice (some ⟨w.heap.size, 0, none⟩) 1 1) [m] := by
  refine ⟨[(cv, ev)], rfl, fun i c x g1 g2 => ?_, rfl, .inr ⟨w.heap.size, 1, _, rfl, hb, heap_alloc_new _ _, Nat.le_refl _, by unfold maxLen; omega, rfl, rfl⟩⟩
  have hi : i = 0 := by
    have := (List.getElem?_eq_some_iff.1 g1).1
    simpa using this
  subst hi
  simp at g1 g2
  subst g1
  subst g2
  exact ⟨h1.since (below_alloc _), h2.later (below_alloc _)⟩

theorem step_append_runG {P : Program} {ops : Array Oper} {o : Oper} {a : Act} {w w' : World} {v' : Value} {K : Act → World → Prop} {Q : Exit → Act → World → Prop} {E : Prop} (hgd : Region.wanted o (yielded ops a.tmps) = true) (s x : Operand) (t : TypeId)
    (ho : o.op = .call { callee := .builtin .append, args := #[s, x], argTypes := #[t, t] }) (v u : Value) (hs : a.eval s = v) (hx : a.eval x = u)
    (hr : (Builtin.append_ #[t, t] o.type #[v, u]).run P w = .ok v' w') (hK : K (a.put o.dst v') w') :
    if Region.wanted o (yielded ops a.tmps) = true then Oper.wp P o a w K Q else E := by
  rw [if_pos hgd]
  unfold Oper.wp execOp
  simp only [ho, resolve, invoke, builtin, Sem.run_bind, Sem.run_pure, Result.andThen_ok, List.map_toArray, List.map_cons, List.map_nil, hs, hx, hr]
  exact hK

/-- Only the first ones. -/
theorem OwN.cut {w : World} {base : Nat} {ao : Option Addr} {n cap k : Nat} {cs : List (Int × Value)} (h : OwN w base (.slice ao n cap) cs) (hk : k ≤ cs.length) (h0 : 0 < cs.length) : OwN w base (.slice ao k cap) (cs.take k) := by
  have h1 := h.1
  have e : flatN (cs.take k) = (flatN cs).take (k * 2) := by
    clear h h1 h0
    induction cs generalizing k with
    | nil => simp at hk; subst hk; rfl
    | cons c r ih =>
      cases k with
      | zero => rfl
      | succ k =>
        have := ih (k := k) (by simpa using hk)
        show flatN (c :: r.take k) = _
        have e1 : ∀ s : List (Int × Value), flatN (c :: s) = .int .i64 c.1 :: c.2 :: flatN s := fun s => rfl
        rw [e1, e1, this, show (k + 1) * 2 = k * 2 + 1 + 1 by omega, List.take_succ_cons, List.take_succ_cons]
  have hkl : (cs.take k).length = k := by rw [List.length_take]; omega
  unfold OwN
  rw [hkl, e]
  refine ⟨by rw [List.length_take]; omega, ?_⟩
  rcases h.2 with ⟨hv, hn⟩ | ⟨g, cap', cur, hv, hb, hg, hc, hm, hs, ht⟩
  · omega
  · simp only [Value.slice.injEq] at hv
    obtain ⟨rfl, rfl, rfl⟩ := hv
    refine .inr ⟨g, cap, cur, rfl, hb, hg, by omega, hm, hs, ?_⟩
    rw [← ht, List.take_take, Nat.min_eq_left (by omega)]

theorem heap_newg12 {w : World} {o : Obj} {g : Nat} (h : g = w.heap.size) : (w.alloc o).heap[g]? = some o := by
  subst h
  exact heap_alloc_new _ _

theorem OM.one {w : World} {base : Nat} {v : Value} {p : List Mn} (h : OM w base v p) : v.oneCell' = true := by
  obtain ⟨a, c, rfl⟩ := h.slice
  rfl

theorem OM.grownN {w w' : World} {base b : Nat} {u v : Value} {p : List Mn} {ds : List (Int × Value)} (h : OM w base u p) (ho : OwN w b v ds) (hg : w.grownBy w' v.ownBlock) : OM w' base u p := by
  rcases ho.2 with ⟨rfl, _⟩ | ⟨g, cap, cur, rfl, _, hgb, _⟩
  · exact h.held hg fun _ _ _ u _ _ _ => by cases hv : u.ownBlock <;> simp [Value.ownBlock]
  · exact h.heldAt hg hgb (by decide) (by decide) (by decide)

theorem OwN.cellsN {w : World} {base g n cap : Nat} {cs : List (Int × Value)} (h : OwN w base (.slice (some ⟨g, 0, none⟩) n cap) cs) {k : Nat} {c : Int × Value} (hk : cs[k]? = some c) : w.cell? ⟨g, k * 2, none⟩ = some (.int .i64 c.1) ∧ w.cell? ⟨g, k * 2 + 1, none⟩ = some c.2 := by
  have hlt := (List.getElem?_eq_some_iff.1 hk).1
  have hn : n = cs.length := by
    rcases h.2 with ⟨hv, _⟩ | ⟨_, _, _, hv, _⟩
    · cases hv
    · simp only [Value.slice.injEq] at hv
      exact hv.2.1
  subst hn
  obtain ⟨h1, h2⟩ := flatN_get hk
  exact ⟨by rw [World.ownsRow.cellAt h (k * 2) (by omega), h1], by rw [World.ownsRow.cellAt h (k * 2 + 1) (by omega), h2]⟩

theorem Els.snoc {w : World} {cs : List (Int × Value)} {l : List Ip} {c : Int × Value} {x : Ip} (h : Els w cs l) (h1 : c.1 = x.1) (h2 : -9223372036854775808 ≤ x.1) (h3 : x.1 ≤ 9223372036854775807) (h4 : Ms w c.2 x.2) : Els w (cs ++ [c]) (l ++ [x]) := by
  refine ⟨by rw [List.length_append, List.length_append, h.1]; rfl, fun i d y g1 g2 => ?_⟩
  by_cases hi : i < cs.length
  · rw [List.getElem?_append_left hi] at g1
    rw [List.getElem?_append_left (by rw [← h.1]; exact hi)] at g2
    exact h.2 i d y g1 g2
  · rw [List.getElem?_append_right (by omega)] at g1
    rw [List.getElem?_append_right (by rw [← h.1]; omega), ← h.1] at g2
    have e0 : i - cs.length = 0 := by
      have := (List.getElem?_eq_some_iff.1 g1).1
      simp at this
      omega
    rw [e0] at g1 g2
    simp at g1 g2
    subst g1
    subst g2
    exact ⟨h1, h2, h3, h4⟩

/-- The document's interpretation. -/
def worthL (n : Nat) : List Ip := [(0, [([1], [])]), (1, [([1], []), ([1], [1])]), (2, [([1], [0, 1]), ([n], [1])])]

/-- What is said of elements whose rows are one's own. -/
def ElsO (w : World) (base : Nat) (cs : List (Int × Value)) (l : List Ip) : Prop := cs.length = l.length ∧ ∀ (i : Nat) c x, cs[i]? = some c → l[i]? = some x → c.1 = x.1 ∧ -9223372036854775808 ≤ x.1 ∧ x.1 ≤ 9223372036854775807 ∧ OM w base c.2 x.2

theorem ElsO.els {w : World} {base : Nat} {cs : List (Int × Value)} {l : List Ip} (h : ElsO w base cs l) : Els w cs l := ⟨h.1, fun i c x h1 h2 => by
  obtain ⟨a, b, d, e⟩ := h.2 i c x h1 h2
  exact ⟨a, b, d, e.ms⟩⟩

theorem ElsO.later {w w' : World} {base : Nat} {cs : List (Int × Value)} {l : List Ip} (h : ElsO w base cs l) (hb : Below w.heap.size w w') : ElsO w' base cs l := ⟨h.1, fun i c x h1 h2 => by
  obtain ⟨a, b, d, e⟩ := h.2 i c x h1 h2
  exact ⟨a, b, d, e.later hb⟩⟩

theorem ElsO.heldAt {w w' : World} {base g : Nat} {cs : List (Int × Value)} {l : List Ip} {vs : Array Value} {fr : Nat × Nat} (h : ElsO w base cs l) (hg : w.grownBy w' (some g)) (hb : w.heap[g]? = some (.cells vs 51 fr)) : ElsO w' base cs l := ⟨h.1, fun i c x h1 h2 => by
  obtain ⟨a, b, d, e⟩ := h.2 i c x h1 h2
  exact ⟨a, b, d, e.heldAt hg hb (by decide) (by decide) (by decide)⟩⟩

theorem ElsO.grown {w w' : World} {base b : Nat} {v : Value} {cs ds : List (Int × Value)} {l : List Ip} (h : ElsO w base cs l) (ho : OwN w b v ds) (hg : w.grownBy w' v.ownBlock) : ElsO w' base cs l := by
  rcases ho.2 with ⟨rfl, _⟩ | ⟨g, cap, cur, rfl, _, hgb, _⟩
  · refine ⟨h.1, fun i c x h1 h2 => ?_⟩
    obtain ⟨a, b, d, e⟩ := h.2 i c x h1 h2
    exact ⟨a, b, d, e.held hg fun _ _ _ u _ _ _ => by cases hv : u.ownBlock <;> simp [Value.ownBlock]⟩
  · exact h.heldAt hg hgb

theorem ElsO.take {w : World} {base : Nat} {cs : List (Int × Value)} {l : List Ip} (h : ElsO w base cs l) (k : Nat) : ElsO w base (cs.take k) (l.take k) := by
  refine ⟨by rw [List.length_take, List.length_take, h.1], fun i c x h1 h2 => ?_⟩
  rw [List.getElem?_take] at h1 h2
  by_cases hi : i < k
  · rw [if_pos hi] at h1 h2
    exact h.2 i c x h1 h2
  · rw [if_neg hi] at h1
    cases h1

theorem ElsO.snoc {w : World} {base : Nat} {cs : List (Int × Value)} {l : List Ip} {c : Int × Value} {x : Ip} (h : ElsO w base cs l) (h1 : c.1 = x.1) (h2 : -9223372036854775808 ≤ x.1) (h3 : x.1 ≤ 9223372036854775807) (h4 : OM w base c.2 x.2) : ElsO w base (cs ++ [c]) (l ++ [x]) := by
  refine ⟨by rw [List.length_append, List.length_append, h.1]; rfl, fun i d y g1 g2 => ?_⟩
  by_cases hi : i < cs.length
  · rw [List.getElem?_append_left hi] at g1
    rw [List.getElem?_append_left (by rw [← h.1]; exact hi)] at g2
    exact h.2 i d y g1 g2
  · rw [List.getElem?_append_right (by omega)] at g1
    rw [List.getElem?_append_right (by rw [← h.1]; omega), ← h.1] at g2
    have e0 : i - cs.length = 0 := by
      have := (List.getElem?_eq_some_iff.1 g1).1
      simp at this
      omega
    rw [e0] at g1 g2
    simp at g1 g2
    subst g1
    subst g2
    exact ⟨h1, h2, h3, h4⟩

theorem heap_oldg12 {w : World} {o o' : Obj} {g : Nat} (h : w.heap[g]? = some o') : (w.alloc o).heap[g]? = some o' := by
  rw [(below_alloc (w := w) o).block g (Array.getElem?_eq_some_iff.1 h).1]
  exact h

theorem zi_of {xs : List Int} (h : ∀ x ∈ xs, -9223372036854775808 ≤ x ∧ x ≤ 9223372036854775807) : ZI xs := fun _ x hx => h x (List.mem_of_getElem? hx)

theorem zi_nil : ZI [] := fun _ x hx => by simp at hx

set_option maxRecDepth 100000 in
set_option maxHeartbeats 6400000 in
theorem worth12_any (n : Nat) (w : World) (hn : n < 4294967296) :
    Calls Tryz.prog 37 #[.int .u32 (n : Int)] w fun e w' => ∃ g v0 v1 v2, e = .returned (.slice (some ⟨g, 0, none⟩) 3 3) ∧ OwN w' w.heap.size (.slice (some ⟨g, 0, none⟩) 3 3) [(0, v0), (1, v1), (2, v2)] ∧ ElsO w' w.heap.size [(0, v0), (1, v1), (2, v2)] (worthL n) ∧ Below w.heap.size w w' := by
  go_enter Tryz.func37, Tryz.ntmps37
  go_wp2
  go_ret
  generalize hW : World.alloc _ _ = W
  have hb : Below w.heap.size w W := by
    rw [← hW]
    repeat (first | exact below_alloc _ | refine below_step ?_ (below_alloc _))
  have s0 : Ow W w.heap.size (.slice (some ⟨w.heap.size, 0, none⟩) 1 1) [1] := ⟨fun y hy => by simp at hy; omega, rfl, .inr ⟨_, 1, #[.int .u32 (1 : Nat)], rfl, by omega, (by rw [← hW]; repeat (first | (refine heap_newg12 ?_; simp; done) | refine heap_oldg12 ?_)), Nat.le_refl _, by unfold maxLen; omega, rfl, rfl⟩⟩
  have s2 : Ow W w.heap.size (.slice (some ⟨w.heap.size + 2, 0, none⟩) 1 1) [1] := ⟨fun y hy => by simp at hy; omega, rfl, .inr ⟨_, 1, #[.int .u32 (1 : Nat)], rfl, by omega, (by rw [← hW]; repeat (first | (refine heap_newg12 ?_; simp; done) | refine heap_oldg12 ?_)), Nat.le_refl _, by unfold maxLen; omega, rfl, rfl⟩⟩
  have s5 : Ow W w.heap.size (.slice (some ⟨w.heap.size + 5, 0, none⟩) 1 1) [1] := ⟨fun y hy => by simp at hy; omega, rfl, .inr ⟨_, 1, #[.int .u32 (1 : Nat)], rfl, by omega, (by rw [← hW]; repeat (first | (refine heap_newg12 ?_; simp; done) | refine heap_oldg12 ?_)), Nat.le_refl _, by unfold maxLen; omega, rfl, rfl⟩⟩
  have s10 : Ow W w.heap.size (.slice (some ⟨w.heap.size + 10, 0, none⟩) 1 1) [n] := ⟨fun y hy => by simp at hy; omega, rfl, .inr ⟨_, 1, #[.int .u32 (n : Nat)], rfl, by omega, (by rw [← hW]; repeat (first | (refine heap_newg12 ?_; simp; done) | refine heap_oldg12 ?_)), Nat.le_refl _, by unfold maxLen; omega, rfl, rfl⟩⟩
  have i3 : OwI W w.heap.size (.slice (some ⟨w.heap.size + 3, 0, none⟩) 1 1) [1] := ⟨zi_of (by decide), rfl, .inr ⟨_, 1, #[.int .i64 1], rfl, by omega, (by rw [← hW]; repeat (first | (refine heap_newg12 ?_; simp; done) | refine heap_oldg12 ?_)), Nat.le_refl _, by unfold maxLen; omega, rfl, rfl⟩⟩
  have i6 : OwI W w.heap.size (.slice (some ⟨w.heap.size + 6, 0, none⟩) 2 2) [0, 1] := ⟨zi_of (by decide), rfl, .inr ⟨_, 2, #[.int .i64 0, .int .i64 1], rfl, by omega, (by rw [← hW]; repeat (first | (refine heap_newg12 ?_; simp; done) | refine heap_oldg12 ?_)), Nat.le_refl _, by unfold maxLen; omega, rfl, rfl⟩⟩
  have i11 : OwI W w.heap.size (.slice (some ⟨w.heap.size + 11, 0, none⟩) 1 1) [1] := ⟨zi_of (by decide), rfl, .inr ⟨_, 1, #[.int .i64 1], rfl, by omega, (by rw [← hW]; repeat (first | (refine heap_newg12 ?_; simp; done) | refine heap_oldg12 ?_)), Nat.le_refl _, by unfold maxLen; omega, rfl, rfl⟩⟩
  have m8 : OM W w.heap.size (.slice (some ⟨w.heap.size + 8, 0, none⟩) 1 1) [([1], [])] := by
    refine ⟨[(.slice (some ⟨w.heap.size, 0, none⟩) 1 1, .slice none 0 0)], rfl, fun i c m h1 h2 => ?_, rfl, .inr ⟨_, 1, #[.slice (some ⟨w.heap.size, 0, none⟩) 1 1, .slice none 0 0], rfl, by omega, (by rw [← hW]; repeat (first | (refine heap_newg12 ?_; simp; done) | refine heap_oldg12 ?_)), Nat.le_refl _, by unfold maxLen; omega, rfl, rfl⟩⟩
    match i, h1, h2 with
    | 0, h1, h2 =>
      simp at h1 h2
      subst h1
      subst h2
      exact ⟨s0, ⟨zi_nil, World.ownsRow_nil _ _ _ _⟩⟩
    | i + 1, h1, h2 => simp at h1
  have m9 : OM W w.heap.size (.slice (some ⟨w.heap.size + 9, 0, none⟩) 2 2) [([1], []), ([1], [1])] := by
    refine ⟨[(.slice (some ⟨w.heap.size, 0, none⟩) 1 1, .slice none 0 0), (.slice (some ⟨w.heap.size + 2, 0, none⟩) 1 1, .slice (some ⟨w.heap.size + 3, 0, none⟩) 1 1)], rfl, fun i c m h1 h2 => ?_, rfl, .inr ⟨_, 2, #[.slice (some ⟨w.heap.size, 0, none⟩) 1 1, .slice none 0 0, .slice (some ⟨w.heap.size + 2, 0, none⟩) 1 1, .slice (some ⟨w.heap.size + 3, 0, none⟩) 1 1], rfl, by omega, (by rw [← hW]; repeat (first | (refine heap_newg12 ?_; simp; done) | refine heap_oldg12 ?_)), Nat.le_refl _, by unfold maxLen; omega, rfl, rfl⟩⟩
    match i, h1, h2 with
    | 0, h1, h2 =>
      simp at h1 h2
      subst h1
      subst h2
      exact ⟨s0, ⟨zi_nil, World.ownsRow_nil _ _ _ _⟩⟩
    | 1, h1, h2 =>
      simp at h1 h2
      subst h1
      subst h2
      exact ⟨s2, i3⟩
    | i + 2, h1, h2 => simp at h1
  have m12 : OM W w.heap.size (.slice (some ⟨w.heap.size + 12, 0, none⟩) 2 2) [([1], [0, 1]), ([n], [1])] := by
    refine ⟨[(.slice (some ⟨w.heap.size + 5, 0, none⟩) 1 1, .slice (some ⟨w.heap.size + 6, 0, none⟩) 2 2), (.slice (some ⟨w.heap.size + 10, 0, none⟩) 1 1, .slice (some ⟨w.heap.size + 11, 0, none⟩) 1 1)], rfl, fun i c m h1 h2 => ?_, rfl, .inr ⟨_, 2, #[.slice (some ⟨w.heap.size + 5, 0, none⟩) 1 1, .slice (some ⟨w.heap.size + 6, 0, none⟩) 2 2, .slice (some ⟨w.heap.size + 10, 0, none⟩) 1 1, .slice (some ⟨w.heap.size + 11, 0, none⟩) 1 1], rfl, by omega, (by rw [← hW]; repeat (first | (refine heap_newg12 ?_; simp; done) | refine heap_oldg12 ?_)), Nat.le_refl _, by unfold maxLen; omega, rfl, rfl⟩⟩
    match i, h1, h2 with
    | 0, h1, h2 =>
      simp at h1 h2
      subst h1
      subst h2
      exact ⟨s5, i6⟩
    | 1, h1, h2 =>
      simp at h1 h2
      subst h1
      subst h2
      exact ⟨s10, i11⟩
    | i + 2, h1, h2 => simp at h1
  have hG : W.heap[w.heap.size + 13]? = some (.cells #[.int .i64 0, .slice (some ⟨w.heap.size + 8, 0, none⟩) 1 1, .int .i64 1, .slice (some ⟨w.heap.size + 9, 0, none⟩) 2 2, .int .i64 2, .slice (some ⟨w.heap.size + 12, 0, none⟩) 2 2] 51 (0, 0)) := by
    rw [← hW]
    exact heap_newg12 (by simp)
  clear hW
  refine ⟨w.heap.size + 13, .slice (some ⟨w.heap.size + 8, 0, none⟩) 1 1, .slice (some ⟨w.heap.size + 9, 0, none⟩) 2 2, .slice (some ⟨w.heap.size + 12, 0, none⟩) 2 2, rfl, ⟨rfl, .inr ⟨_, 3, _, rfl, by omega, hG, Nat.le_refl _, by unfold maxLen; omega, rfl, rfl⟩⟩, ⟨rfl, fun i c x h1 h2 => ?_⟩, hb⟩
  match i, h1, h2 with
  | 0, h1, h2 =>
    simp [worthL] at h1 h2
    subst h1
    subst h2
    exact ⟨rfl, by decide, by decide, m8⟩
  | 1, h1, h2 =>
    simp [worthL] at h1 h2
    subst h1
    subst h2
    exact ⟨rfl, by decide, by decide, m9⟩
  | 2, h1, h2 =>
    simp [worthL] at h1 h2
    subst h1
    subst h2
    exact ⟨rfl, (by show (-9223372036854775808 : Int) ≤ 2; omega), (by show (2 : Int) ≤ 9223372036854775807; omega), m12⟩
  | i + 3, h1, h2 => simp at h1

set_option maxRecDepth 100000 in
set_option maxHeartbeats 1600000 in
theorem sums12_any (w : World) :
    Calls Tryz.prog 36 #[] w fun e w' => ∃ sv rv, e = .returned (.agg #[sv, rv]) ∧ Sg w' sv sumS ∧ RU w' rv [sumR0, sumR1] ∧ Below w.heap.size w w' := by
  go_enter Tryz.func36, Tryz.ntmps36
  go_wp2
  generalize hW : World.alloc _ _ = W
  have hsz : W.heap.size = w.heap.size + 7 := by rw [← hW]; simp
  have hb : Below w.heap.size w W := by
    rw [← hW]
    exact below_step (below_step (below_step (below_step (below_step (below_step (below_alloc _) (below_alloc _)) (below_alloc _)) (below_alloc _)) (below_alloc _)) (below_alloc _)) (below_alloc _)
  have k0 : W.cell? ⟨w.heap.size, 0, none⟩ = some (.slice (some ⟨w.heap.size + 1, 0, none⟩) 3 3) := by rw [← hW]; repeat (first | (refine cell_newg ?_ rfl; simp; done) | refine cell_old ?_)
  have k1 : W.cell? ⟨w.heap.size, 1, none⟩ = some (.slice (some ⟨w.heap.size + 6, 0, none⟩) 2 2) := by rw [← hW]; repeat (first | (refine cell_newg ?_ rfl; simp; done) | refine cell_old ?_)
  have hS : Sg W (.slice (some ⟨w.heap.size + 1, 0, none⟩) 3 3) sumS := by
    refine sg_lit (p := sumS) (by omega) (by decide) ⟨⟨by decide, by decide, by decide, ?_, ?_⟩, ⟨by decide, by decide, by decide, ?_, ?_⟩, ⟨by decide, by decide, by decide, ?_, ?_⟩, trivial⟩ <;> (rw [← hW]; repeat (first | (refine cell_newg ?_ rfl; simp; done) | refine cell_old ?_))
  have i0 : Is W (.slice (some ⟨w.heap.size + 2, 0, none⟩) 3 3) [2, 0, -1] := by
    refine is_lit (p := [2, 0, -1]) (by omega) (by decide) ⟨ei (by omega) (by omega) ?_, ei (by omega) (by omega) ?_, ei (by omega) (by omega) ?_, trivial⟩ <;> (rw [← hW]; repeat (first | (refine cell_newg ?_ rfl; simp; done) | refine cell_old ?_))
  have i1 : Is W (.slice (some ⟨w.heap.size + 3, 0, none⟩) 1 1) [-1] := by
    refine is_lit (p := [-1]) (by omega) (by decide) ⟨ei (by omega) (by omega) ?_, trivial⟩ <;> (rw [← hW]; repeat (first | (refine cell_newg ?_ rfl; simp; done) | refine cell_old ?_))
  have i2 : Is W (.slice (some ⟨w.heap.size + 4, 0, none⟩) 4 4) [2, 1, -1, -2] := by
    refine is_lit (p := [2, 1, -1, -2]) (by omega) (by decide) ⟨ei (by omega) (by omega) ?_, ei (by omega) (by omega) ?_, ei (by omega) (by omega) ?_, ei (by omega) (by omega) ?_, trivial⟩ <;> (rw [← hW]; repeat (first | (refine cell_newg ?_ rfl; simp; done) | refine cell_old ?_))
  have i3 : Is W (.slice (some ⟨w.heap.size + 5, 0, none⟩) 4 4) [1, 2, -1, -2] := by
    refine is_lit (p := [1, 2, -1, -2]) (by omega) (by decide) ⟨ei (by omega) (by omega) ?_, ei (by omega) (by omega) ?_, ei (by omega) (by omega) ?_, ei (by omega) (by omega) ?_, trivial⟩ <;> (rw [← hW]; repeat (first | (refine cell_newg ?_ rfl; simp; done) | refine cell_old ?_))
  have hR : W.heap[w.heap.size + 6]? = some (.cells #[.slice (some ⟨w.heap.size + 2, 0, none⟩) 3 3, .slice (some ⟨w.heap.size + 3, 0, none⟩) 1 1, .slice (some ⟨w.heap.size + 4, 0, none⟩) 4 4, .slice (some ⟨w.heap.size + 5, 0, none⟩) 4 4] 41) := by
    rw [← hW]
    exact heap_newg8 (by simp)
  have hRU : RU W (.slice (some ⟨w.heap.size + 6, 0, none⟩) 2 2) [sumR0, sumR1] := ru_lit8 (cell_of_row _ _ _ _ _ _ hR) (cell_of_row _ _ _ _ _ _ hR) (cell_of_row _ _ _ _ _ _ hR) (cell_of_row _ _ _ _ _ _ hR) i0 i1 i2 i3 (by decide) (by decide) (by decide) (by decide)
  clear hW
  refine bodyPost_ret (results_one8 rfl rfl ?_) rfl ⟨_, _, rfl, hS, hRU, hb⟩
  go_simp

end Go.Proofs.YtdjmjhlbjcgoiaaGreatDoor
